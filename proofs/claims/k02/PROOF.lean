import PyProof.Rows.All
import Wide.All
import OpenK.AllK
import Wide.FinOn
import HandS.ForMost
import HandS.ForExc
import HandS.Codes
import HandS.Lambda
import HandS.EndTab
import HandS.IsInst
import HandS.ExcIs
import HandS.Wide
import HandS.SetFor
import HandS.TupMul
import HandS.Conv
import HandS.Zip
import KE.SortData
import KE.KDflt
import HandS.Walk
import HandS.WideBits
import HandS.Rev
import HandS.ExcInit
import HandS.ClsMeth
import HandS.FStr
import HandS.Dict
import HandS.ExcField
import HandS.Deep
import HandS.TupAny
import PySem.Challenge.RW_windowdog_k02_plans_that_are_none
set_option Elab.async false
set_option linter.all false
set_option maxRecDepth 100000
set_option maxHeartbeats 4000000
/-! The readings step by step; heaps in which one list (the drawing's) changes. -/
namespace Wd
open PySem PySem.Spec PyProof.Rows L2

/-! ### rules -/
section
variable {X : Cx} {a b c d : Expr} {ta tb tc td : TE} {pos : Pos}
def tChain3 (r r' r2 : R2) (ta tb tc td : TE) : TE := fun σ H Q => ta σ H fun x H1 => tb σ H1 fun y H2 => r x y H2 fun z H3 => ∃ k, z = .bl k ∧
  (if k = true then tc σ H3 fun w' H4 => r' y w' H4 fun z2 H5 => ∃ k2, z2 = .bl k2 ∧ (if k2 = true then td σ H5 fun w2 H6 => r2 w' w2 H6 Q else Q (.bl false) H5) else Q (.bl false) H3)
theorem pe_chain3 {op op' op2 : CmpOp} {r r' r2 : R2} (ho : OpR X (compareOp op) r) (ho' : OpR X (compareOp op') r') (ho2 : OpR X (compareOp op2) r2) (ha : PE X a ta) (hb : PE X b tb) (hc : PE X c tc) (hd : PE X d td)
    (hm : lastMarks [op, op', op2] [b, c, d] = false := by with_unfolding_all rfl) : PE X (.Compare a [op, op', op2] [b, c, d] pos) (tChain3 r r' r2 ta tb tc td) := by
  refine ⟨fun pins s σ H Q I h => ?_⟩
  refine Compare_chain (thn (ha.run pins s σ H _ I h) fun v s1 ⟨x, H1, I1, r1, q1⟩ => chain_link (thn (hb.run pins s1 σ H1 _ I1 q1) fun u s2 ⟨y, H2, I2, r2, q2⟩ =>
    thn (ho pins s2 σ H2 x y v u _ I2 r1 r2 q2) fun d s3 ⟨z, H3, I3, r3, k, e, q3⟩ => ?_)) hm
  subst e
  cases r3
  refine wpAny_truthy_bool ?_
  cases k with
  | false => exact ite_ff ⟨.bl false, H3, I3, rfl, q3⟩
  | true =>
    refine ite_tt (chain_link (thn (hc.run pins s3 σ H3 _ I3 q3) fun w' s4 ⟨z', H4, I4, r4, q4⟩ => thn (ho' pins s4 σ H4 y z' u w' _ I4 r2 r4 q4) fun d5 s5 ⟨z5, H5, I5, r5, k5, e5, q5⟩ => ?_))
    subst e5
    cases r5
    refine wpAny_truthy_bool ?_
    cases k5 with
    | false => exact ite_ff ⟨.bl false, H5, I5, rfl, q5⟩
    | true => exact ite_tt (chain_last (thn (hd.run pins s5 σ H5 _ I5 q5) fun w6 s6 ⟨z6, H6, I6, r6, q6⟩ => ho2 pins s6 σ H6 z' z6 w' w6 Q I6 r4 r6 q6))
end

section
variable {X : Cx} {K : PySem.W.Frag} {name : Str} {T id : String} {r : V → List V → Hp → VK → Prop} {o e : Expr} {es : List Expr} {to : TE} {t : TA} {apos cpos : Pos}
theorem pe_bmK (hK : X.K = K) (pa : PlainAttrs T) (slot : Slot T name id) (hty : typeOf (.builtin id) = pure (.type "method_descriptor")) (hm : MtR X id r) (ho : PE X o to) (ha : PA X (e :: es) t)
    (hbase : attributeBase o name X.env (eval o X.env) = eval o X.env := by rfl)
    (hfew : ((backTo cpos (starEach (e :: es) X.env)).all (fun x => !x.1) && (backToKw cpos (keywordEach [] X.env)).all (fun x => x.1.isSome)
      && decide ((e :: es).length + ([] : List Keyword).length + (if ([] : List Keyword).isEmpty then 0 else 1) < 30)) = true := by rfl)
    (hline : (apos.endLine == cpos.line) = true := by rfl) (hs : starEach (e :: es) X.env = (false, eval e X.env) :: starEach es X.env := by rfl) (hplain : (backTo cpos (starEach es X.env)).any (·.1) = false := by rfl) : PE X (.Call (.Attribute o name apos) (e :: es) [] cpos) (tBM K T r to t) := by
  subst hK; exact pe_bm pa slot hty hm ho ha hbase hfew hline hs hplain
theorem pe_bm0K (hK : X.K = K) (pa : PlainAttrs T) (slot : Slot T name id) (hty : typeOf (.builtin id) = pure (.type "method_descriptor")) (hm : MtR X id r) (ho : PE X o to)
    (hbase : attributeBase o name X.env (eval o X.env) = eval o X.env := by rfl) (hline : (apos.endLine == cpos.line) = true := by rfl) : PE X (.Call (.Attribute o name apos) [] [] cpos) (tBM0 K T r to) := by
  subst hK; exact pe_bm0 pa slot hty hm ho hbase hline
end

/-- a def of the module that may let an exception out -/
structure CalX (P : Program) (w : World) (K : PySem.W.Frag) (mg : Str → Option Value) (base : Heap) (k : Nat) (x : Str) (sp : Sp) : Prop where
  ex : ∃ (f : Addr) (fd : FuncData) (ps : List Str), FnOk P w K mg base (L2.CX P w) k f fd ps sp ∧ mg x = some (.ref f) ∧ PySem.W.keepIn K (.ref f) = true ∧ Binds K fd ps []
section
variable {X : Cx} {k j : Nat} {x : Str} {sp : Sp} {p pos : Pos} {e : Expr} {es : List Expr} {t : TA} {E : L2.St → XK}
theorem pe_cX (c : CalX X.prog X.w X.K X.mg X.base k x sp) (hr : Room j X.A) (hk : k ≤ j) (hg : Gl X x) (hx : ∀ σ, PassesAt (L2.CX X.prog X.w) X σ (E σ)) (ha : PA X (e :: es) t)
    (hdb : (x == ("__debug__" : Str)) = false := by decide) (he : starEach (e :: es) X.env = (false, eval e X.env) :: starEach es X.env := by rfl) (hpl : (backTo pos (starEach es X.env)).any (·.1) = false := by rfl) :
    PE X (.Call (.Name x p) (e :: es) [] pos) (tCallS sp E t) := by
  obtain ⟨f, fd, ps, F, hm, kp, b⟩ := c.ex
  exact pe_callS F (hr.mono hk) hg hm kp b hx ha hdb he hpl
end
section
variable {P : Program} {w : World} {K : PySem.W.Frag} {mg : Str → Option Value} {base : Heap}
/-- a def by its body, which may let an exception out -/
theorem calX {x : Str} {st : Stmt} {f : Addr} {fd : FuncData} {N ps : List Str} {k : Nat} {sp : Sp} (F : C8.Def K mg x st f fd) (b : Binds K fd ps []) (S : FnScope N ps (C8.fnScope st)) (len : ∀ vs H Q E, sp vs H Q E → vs.length = ps.length)
    (hbody : ∀ (cdv : Value) (A : Around) (outer : List Env) (s : Shared) (H : Hp) (vs : List V) (Q : VK) (E : XK), Room k (A.deeper (envOfC x (C8.fnScope st) s.heap.objs.size f cdv)) → sp vs H Q E →
      ∃ t, PSs (cxOf (L2.CX P w) P w K mg base N x (C8.fnScope st) f cdv A outer s H E) (C8.fnBody st) t ∧ t { nx := fun _ H' => Q .non H', rt := Q } (L2.start N vs) H) : CalX P w K mg base (k + 1) x sp := by
  refine ⟨f, fd, ps, ?_, F.mgf, F.kp, b⟩
  obtain ⟨oc, od, dV, kV, doc, pm, an, cdv, ct, osl, rfl, lk, hcd⟩ := F.fn.ex
  exact fn_of lk hcd S len fun A outer s H vs Q E hr hsp => hbody cdv A outer s H vs Q E hr hsp
end

/-! ### list.count of flat items -/
section
variable {X : Cx}
theorem count_eqU {x : V} : ∀ {xs : List V} {us : List Value}, Vals xs us → xs.all flatV = true → us.countP (eqU x) = xs.countP fun y => eqV y x
  | _, _, .nil, _ => rfl
  | y :: xs, u :: us, .cons r t, f => by
    rw [List.all_cons, Bool.and_eq_true] at f
    rw [List.countP_cons, List.countP_cons, eqU_of r f.1, count_eqU t f.2]
def rCntV (K : PySem.W.Frag) : V → List V → Hp → VK → Prop := fun x xs H Q => ∃ (p : Addr) (ys : List V) (y : V), x = .ref p ∧ xs = [y] ∧ SqL K H p ys ∧ flatV y = true ∧ ys.all flatV = true ∧ Q (.int ((ys.countP fun z => eqV z y : Nat) : Int)) H
theorem mt_lcountV : MtR X "list.count" (rCntV X.K) := by
  intro pins s σ H x xs v us Q I rx rxs h
  obtain ⟨p, ys, y, rfl, rfl, hs, fy, fys, q⟩ := h
  cases rx
  obtain ⟨u, rfl, ru⟩ := rxs.one
  obtain ⟨its, rv, ⟨⟨cls, dd, data, sl⟩, n, ho, hc, hdn, hd⟩, hlen⟩ := I.list hs
  simp only at hc hd
  subst hc hd
  refine call_meets PySem.F.slot_list_count ⟨_, ho, rfl⟩ PySem.F.entry_list_count (PySem.F.args_list_count_2 _ _)
    (SeqAt.list_countAt p its.toArray n dd sl u (eqU y)) ⟨ho, fun u' hu' => mem_eqAt ru fy rv fys u' (by simpa using hu'), ?_⟩
  have ec : its.toArray.toList.countP (eqU y) = ys.countP fun z => eqV z y := count_eqU rv fys
  refine ⟨.int (ys.countP fun z => eqV z y : Nat), H, I.tok _, ⟨s.toks, ?_⟩, q⟩
  show Value.int ((its.toArray.toList.countP (eqU y) : Nat) : Int) s.toks = Value.int ((ys.countP fun z => eqV z y : Nat) : Int) s.toks
  rw [ec]
end

/-! ### isinstance of a caught error, its class told by the reading -/
def rIsE2 (K : PySem.W.Frag) (cls : Value) (d : Option Addr) (a : Addr) : List V → Hp → VK → Prop := fun xs H Q => ∃ (D : Addr) (c : V) (cv : Value) (b : Bool), cls = .ref D ∧ d = none ∧ ExcC K D ∧ xs = [.ref a, c] ∧ (∀ u, RelV c u → u = cv) ∧ PySem.W.kitOne K (.ref D) cv = some b ∧ Q (.bl b) H
theorem call_isE2 {X : Cx} {a : Addr} {cls : Value} {d : Option Addr} {oe : Obj} {pn : List (Addr × Obj)} (hz : Zc cls d oe) (hf : ∃ vs, oe.data = .fields vs) : CallR (X.suite a ((a, oe) :: pn)) (.builtin "isinstance") (rIsE2 X.K cls d a) := by
  intro pins s σ H xs us Q I r h
  obtain ⟨D, c, cv, b, rfl, rfl, C, e, hcv, hk, q⟩ := h
  exact call_isE C hz hf pins s σ H xs us Q I r ⟨c, cv, b, e, hcv, hk, q⟩

/-- where an exception is, the slots are as many as the names -/
theorem takes_len {X : Cx} {W : WX} (t : Takes X W) : Takes X (fun c d σ H => σ.length = X.N.length → W c d σ H) := fun u s' x => by
  obtain ⟨a, B, sI, pins, σ, H, cls, d, e, I, x1, x2, x3, x4, x5, x6, q⟩ := x
  exact t u s' ⟨a, B, sI, pins, σ, H, cls, d, e, I, x1, x2, x3, x4, x5, x6, q I.len⟩

/-! ### built-ins by name -/
def rLen (K : PySem.W.Frag) : List V → Hp → VK → Prop := fun xs H Q => ∃ p ys, xs = [.ref p] ∧ (SqL K H p ys ∨ SqT K H p ys) ∧ Q (.int ys.length) H
theorem call_len1 {X : Cx} : CallR X (.builtin "len") (rLen X.K) := call_len_seq
def rListOf (K : PySem.W.Frag) : List V → Hp → VK → Prop := fun xs H Q => ∃ p ys, xs = [.ref p] ∧ (SqL K H p ys ∨ SqT K H p ys) ∧ ∀ l, H l = none → Q (.ref l) (upd H l (.lst ys))
theorem call_list1 {X : Cx} : CallR X (.type "list") (rListOf X.K) := call_list_of
def rMax2 : List V → Hp → VK → Prop := fun xs H Q => ∃ i j, xs = [.int i, .int j] ∧ Q (.int (if j > i then j else i)) H
theorem call_max1 {X : Cx} (hc : X.calm = true) : CallR X (.builtin "max") rMax2 := call_max2 hc
def rMin2 : List V → Hp → VK → Prop := fun xs H Q => ∃ i j, xs = [.int i, .int j] ∧ Q (.int (if j < i then j else i)) H
theorem call_min1 {X : Cx} (hc : X.calm = true) : CallR X (.builtin "min") rMin2 := call_min2 hc
def rInt1 : List V → Hp → VK → Prop := fun xs H Q => (∃ i, xs = [.int i] ∧ Q (.int i) H) ∨ ∃ k, xs = [.bl k] ∧ Q (.int (if k then 1 else 0)) H
theorem call_intB {X : Cx} : CallR X (.type "int") rInt1 := call_int1

def rIsN : R2 := fun x y H Q => y = .non ∧ Q (.bl (decide (x = .non))) H
theorem op_isN1 {X : Cx} : OpR X (compareOp .Is) rIsN := op_isN
def rNotN : R2 := fun x y H Q => y = .non ∧ Q (.bl (!decide (x = .non))) H
theorem op_notN1 {X : Cx} : OpR X (compareOp .IsNot) rNotN := op_notN

/-! ### steps -/
section
variable {σ : L2.St} {H : Hp} {Q : VK} {QB : Bool → Hp → Prop} {QA : List V → Hp → Prop} {i : Nat} {v x y : V} {ta tb tc te : TE} {t u : TT} {ts us : TS} {D : Ends} {n m : Int} {K : PySem.W.Frag} {r r' r2 : R2}
theorem g_var (h : σ[i]? = some (some v)) (q : Q v H) : tVar i σ H Q := ⟨v, h, q⟩
theorem g_c (q : Q v H) : tC v σ H Q := q
theorem g_op (h : ta σ H fun x H1 => tb σ H1 fun y H2 => r x y H2 Q) : tOp r ta tb σ H Q := h
theorem g_un {r : V → Hp → VK → Prop} (h : ta σ H fun x H1 => r x H1 Q) : tUn r ta σ H Q := h
theorem g_I0 {g : Int → Int → V} (q : Q (g n m) H) : rI0 g (.int n) (.int m) H Q := ⟨n, m, rfl, rfl, q⟩
theorem g_I {C : Int → Int → Prop} {g : Int → Int → V} (c : C n m) (q : Q (g n m) H) : rI C g (.int n) (.int m) H Q := ⟨n, m, rfl, rfl, c, q⟩
theorem g_U {g : Int → V} (q : Q (g n) H) : rU g (.int n) H Q := ⟨n, rfl, q⟩
theorem g_eqI (q : Q (.bl (decide (n = m))) H) : rEq (.int n) (.int m) H Q := ⟨rfl, by
  have e : decide (V.int n = V.int m) = decide (n = m) := by by_cases h : n = m <;> simp [h]
  rw [e]; exact q⟩
theorem g_neI (q : Q (.bl (!decide (n = m))) H) : rNe (.int n) (.int m) H Q := ⟨rfl, by
  have e : decide (V.int n = V.int m) = decide (n = m) := by by_cases h : n = m <;> simp [h]
  rw [e]; exact q⟩
theorem g_eqS {a b : Str} (q : Q (.bl (decide (a = b))) H) : rEq (.str a) (.str b) H Q := ⟨rfl, by
  have e : decide (V.str a = V.str b) = decide (a = b) := by by_cases h : a = b <;> simp [h]
  rw [e]; exact q⟩
theorem g_neS {a b : Str} (q : Q (.bl (!decide (a = b))) H) : rNe (.str a) (.str b) H Q := ⟨rfl, by
  have e : decide (V.str a = V.str b) = decide (a = b) := by by_cases h : a = b <;> simp [h]
  rw [e]; exact q⟩
theorem g_eqB {a b : Bool} (q : Q (.bl (a == b)) H) : rEq (.bl a) (.bl b) H Q := ⟨rfl, by
  have e : decide (V.bl a = V.bl b) = (a == b) := by cases a <;> cases b <;> rfl
  rw [e]; exact q⟩
theorem g_neB {a b : Bool} (q : Q (.bl (a != b)) H) : rNe (.bl a) (.bl b) H Q := ⟨rfl, by
  have e : (!decide (V.bl a = V.bl b)) = (a != b) := by cases a <;> cases b <;> rfl
  rw [e]; exact q⟩
theorem g_isN (q : Q (.bl (decide (x = .non))) H) : rIsN x .non H Q := ⟨rfl, q⟩
theorem g_notN (q : Q (.bl (!decide (x = .non))) H) : rNotN x .non H Q := ⟨rfl, q⟩
theorem g_test (h : te σ H fun x H' => ∃ k, x = .bl k ∧ QB k H') : tTest te σ H QB := h
theorem g_tB (h : te σ H fun x H' => ∃ k, x = .bl k ∧ QB k H') : tB te σ H QB := h
theorem g_bl {b : Bool} (q : QB b H) : ∃ k, V.bl b = .bl k ∧ QB k H := ⟨b, rfl, q⟩
theorem g_and (h : t σ H fun c H1 => if c = true then u σ H1 QB else QB false H1) : tAnd t u σ H QB := h
theorem g_or (h : t σ H fun c H1 => if c = true then QB true H1 else u σ H1 QB) : tOr t u σ H QB := h
theorem g_not (h : t σ H fun c H1 => QB (!c) H1) : tNot t σ H QB := h
theorem g_andV (h : ta σ H fun x H1 => ∃ c, x = .bl c ∧ if c = true then tb σ H1 Q else Q (.bl false) H1) : tAndV ta tb σ H Q := h
theorem g_orV (h : ta σ H fun x H1 => ∃ c, x = .bl c ∧ if c = true then Q (.bl true) H1 else tb σ H1 Q) : tOrV ta tb σ H Q := h
theorem g_notV (h : ta σ H fun x H1 => ∃ c, x = .bl c ∧ Q (.bl (!c)) H1) : tNotV ta σ H Q := h
theorem g_blI {b : Bool} {p : Bool → Prop} (q : p b) : ∃ k, V.bl b = .bl k ∧ p k := ⟨b, rfl, q⟩
theorem g_if (h : t σ H fun c H1 => if c = true then ta σ H1 Q else tb σ H1 Q) : tIf t ta tb σ H Q := h
theorem g_chain (h : ta σ H fun x H1 => tb σ H1 fun y H2 => r x y H2 fun z H3 => ∃ k, z = .bl k ∧ (if k = true then tc σ H3 fun w' H4 => r' y w' H4 Q else Q (.bl false) H3)) : tChain r r' ta tb tc σ H Q := h
theorem g_chain3 {td : TE} (h : ta σ H fun x H1 => tb σ H1 fun y H2 => r x y H2 fun z H3 => ∃ k, z = .bl k ∧
  (if k = true then tc σ H3 fun w' H4 => r' y w' H4 fun z2 H5 => ∃ k2, z2 = .bl k2 ∧ (if k2 = true then td σ H5 fun w2 H6 => r2 w' w2 H6 Q else Q (.bl false) H5) else Q (.bl false) H3)) : tChain3 r r' r2 ta tb tc td σ H Q := h
theorem g_nil (q : QA [] H) : tNil σ H QA := q
theorem g_cons {tr : TA} (h : ta σ H fun x H1 => tr σ H1 fun xs H2 => QA (x :: xs) H2) : tCons ta tr σ H QA := h
theorem g_tup {tr : TA} (h : tr σ H fun xs H1 => xs.length ≤ sizeLine ∧ ∀ p, H1 p = none → Q (.ref p) (upd H1 p (.tup xs))) : tTup tr σ H Q := h
theorem g_lst {tr : TA} (h : tr σ H fun xs H1 => xs.length ≤ sizeLine ∧ ∀ p, H1 p = none → Q (.ref p) (upd H1 p (.lst xs))) : tLst tr σ H Q := h
theorem g_CB {r : List V → Hp → VK → Prop} {tr : TA} (h : tr σ H fun vs H1 => r vs H1 Q) : tCB r tr σ H Q := h
theorem g_call {sp : Sp} {dvs : List V} {E : XK} {tr : TA} (h : tr σ H fun vs H1 => sp (vs ++ dvs) H1 Q E) : tCall sp dvs E tr σ H Q := h
theorem g_callS {sp : Sp} {E : L2.St → XK} {tr : TA} (h : tr σ H fun vs H1 => sp vs H1 Q (E σ)) : tCallS sp E tr σ H Q := h
theorem g_bm {T : String} {r : V → List V → Hp → VK → Prop} {tr : TA} (h : ta σ H fun x H1 => tyV K T x H1 ∧ tr σ H1 fun xs H2 => r x xs H2 Q) : tBM K T r ta tr σ H Q := h
theorem g_bm0 {T : String} {r : V → List V → Hp → VK → Prop} (h : ta σ H fun x H1 => tyV K T x H1 ∧ r x [] H1 Q) : tBM0 K T r ta σ H Q := h
theorem g_sl {r : V → Option Int → Option Int → Hp → VK → Prop} {tl th : TO} (h : te σ H fun x H1 => tl σ H1 fun l H2 => th σ H2 fun u H3 => r x l u H3 Q) : tSl r te tl th σ H Q := h
theorem g_part {QO : Option Int → Hp → Prop} (h : te σ H fun x H1 => ∃ i, x = .int i ∧ QO (some i) H1) : tPart te σ H QO := h
theorem g_part1 {p : Int → Prop} (h : p n) : ∃ i, V.int n = .int i ∧ p i := ⟨n, rfl, h⟩
theorem g_noPart {QO : Option Int → Hp → Prop} (h : QO none H) : tNoPart σ H QO := h
-- statements
theorem g_seq {a : L2.St → Hp → Prop} {b : VK} {c d : L2.St → Hp → Prop} (h : ts ⟨us ⟨a, b, c, d⟩, b, c, d⟩ σ H) : tSeq ts us ⟨a, b, c, d⟩ σ H := h
theorem g_fit {xs : List V} {R : Addr → Prop} (hl : Nat.ble xs.length 1000 = true) (q : ∀ p, H p = none → R p) : xs.length ≤ sizeLine ∧ ∀ p, H p = none → R p := ⟨Nat.le_trans (Nat.le_of_ble_eq_true hl) (by decide), q⟩
theorem g_next (h : D.nx σ H) : tNext D σ H := h
theorem g_asg {g : TG} (h : te σ H fun x H1 => g x σ H1 D.nx) : tAsg te g D σ H := h
theorem g_name {Qg : L2.St → Hp → Prop} (h : Qg (σ.set i (some v)) H) : gName i v σ H Qg := h
theorem g_sub {to ti : TE} {t : TSet} {Qg : L2.St → Hp → Prop} (h : to σ H fun o H1 => ti σ H1 fun i H2 => t o i v H2 fun H3 => Qg σ H3) : gSub to ti t v σ H Qg := h
theorem g_gnil {Qg : L2.St → Hp → Prop} (h : Qg σ H) : gNil [] σ H Qg := ⟨rfl, h⟩
theorem g_gcons {tg : TG} {ug : TGs} {vs : List V} {Qg : L2.St → Hp → Prop} (h : tg v σ H fun σ' H' => ug vs σ' H' Qg) : gCons tg ug (v :: vs) σ H Qg := ⟨v, vs, rfl, h⟩
theorem g_drop (h : te σ H fun _ H1 => D.nx σ H1) : tDrop te D σ H := h
theorem g_ret (h : te σ H D.rt) : tRet te D σ H := h
theorem g_retN (h : D.rt .non H) : tRetN D σ H := h
theorem g_brk (h : D.bk σ H) : tBreak D σ H := h
theorem g_cont (h : D.ct σ H) : tCont D σ H := h
theorem g_ifS (h : t σ H fun b H1 => if b = true then ts D σ H1 else us D σ H1) : tIfS t ts us D σ H := h
theorem g_nx {a : L2.St → Hp → Prop} {b : VK} {c d : L2.St → Hp → Prop} (h : a σ H) : Ends.nx ⟨a, b, c, d⟩ σ H := h
theorem g_bk {a : L2.St → Hp → Prop} {b : VK} {c d : L2.St → Hp → Prop} (h : c σ H) : Ends.bk ⟨a, b, c, d⟩ σ H := h
theorem g_ct {a : L2.St → Hp → Prop} {b : VK} {c d : L2.St → Hp → Prop} (h : d σ H) : Ends.ct ⟨a, b, c, d⟩ σ H := h
theorem g_rt {a : L2.St → Hp → Prop} {b : VK} {c d : L2.St → Hp → Prop} (h : b v H) : Ends.rt ⟨a, b, c, d⟩ v H := h
theorem g_rng1 {tr : TA} {R : It → Hp → Prop} (h : tr σ H fun vs H1 => ∃ j : Int, vs = [.int j] ∧ -(2 ^ 62) ≤ j ∧ j < 2 ^ 62 ∧ R (Itr 0 j.toNat) H1) : iRng1 tr σ H R := h
theorem g_rng2 {tr : TA} {R : It → Hp → Prop} (h : tr σ H fun vs H1 => ∃ i j : Int, vs = [.int i, .int j] ∧ (-(2 ^ 62) ≤ i ∧ i < 2 ^ 62 ∧ -(2 ^ 62) ≤ j ∧ j < 2 ^ 62) ∧ R (Itr i (j - i).toNat) H1) : iRng2 tr σ H R := h
theorem g_iList {R : It → Hp → Prop} (h : te σ H fun x H1 => ∃ a, x = .ref a ∧ (∃ xs, SqL K H1 a xs) ∧ R (Itl K a) H1) : iList K te σ H R := h
theorem g_iTup {R : It → Hp → Prop} (h : te σ H fun x H1 => ∃ a, x = .ref a ∧ (∃ xs, SqT K H1 a xs) ∧ R (Itt K a) H1) : iTup K te σ H R := h
def ForEnd (g : TG) (tb : TS) (a : L2.St → Hp → Prop) (b : VK) (σ : L2.St) (J : It) (H1 : Hp) : Prop := ∃ W : Nat → Nat → L2.St → Hp → Prop, (∃ m, W 0 m σ H1) ∧ ∀ i m σ H, W i m σ H →
  (J.stop i H ∧ a σ H) ∨ (J.go i H ∧ ∃ N : L2.St → Hp → Prop, (∀ σ' H', N σ' H' → ∃ m', m' < m ∧ W (i + 1) m' σ' H') ∧ ∀ x H', J.yld i H x H' → g x σ H' fun σ2 H2 => tb ⟨N, b, a, N⟩ σ2 H2)
theorem g_for {a : L2.St → Hp → Prop} {b : VK} {c d : L2.St → Hp → Prop} {wi : TI} {g : TG} {tb : TS} (h : wi σ H (ForEnd g tb a b σ)) : tFor wi g tb ⟨a, b, c, d⟩ σ H := h
theorem w_list {a : L2.St → Hp → Prop} {b : VK} {g : TG} {tb : TS} {p : Addr} {xs : List V} (Pv : Nat → L2.St → Hp → Prop) (h0 : Pv 0 σ H) (hl : ∀ i σ H, i ≤ xs.length → Pv i σ H → SqL K H p xs)
    (hs : ∀ i x σ H, xs[i]? = some x → Pv i σ H → g x σ H fun σ2 H2 => tb ⟨Pv (i + 1), b, a, Pv (i + 1)⟩ σ2 H2) (hd : ∀ σ H, Pv xs.length σ H → a σ H) : ∃ q, V.ref p = .ref q ∧ (∃ xs, SqL K H q xs) ∧ ForEnd g tb a b σ (Itl K q) H :=
  ⟨p, rfl, ⟨xs, hl 0 σ H (Nat.zero_le _) h0⟩, for_list (D := ⟨a, b, fun _ _ => False, fun _ _ => False⟩) Pv h0 hl hs hd⟩
theorem w_tup {a : L2.St → Hp → Prop} {b : VK} {g : TG} {tb : TS} {p : Addr} {xs : List V} (Pv : Nat → L2.St → Hp → Prop) (h0 : Pv 0 σ H) (hl : ∀ i σ H, i ≤ xs.length → Pv i σ H → SqT K H p xs)
    (hs : ∀ i x σ H, xs[i]? = some x → Pv i σ H → g x σ H fun σ2 H2 => tb ⟨Pv (i + 1), b, a, Pv (i + 1)⟩ σ2 H2) (hd : ∀ σ H, Pv xs.length σ H → a σ H) : ∃ q, V.ref p = .ref q ∧ (∃ xs, SqT K H q xs) ∧ ForEnd g tb a b σ (Itt K q) H :=
  ⟨p, rfl, ⟨xs, hl 0 σ H (Nat.zero_le _) h0⟩, for_tup (D := ⟨a, b, fun _ _ => False, fun _ _ => False⟩) Pv h0 hl hs hd⟩
/-- range(n) -/
theorem w_range {a : L2.St → Hp → Prop} {b : VK} {g : TG} {tb : TS} {n : Int} (h1 : -(2 ^ 62) ≤ n) (h2 : n < 2 ^ 62) (Pv : Nat → L2.St → Hp → Prop) (h0 : Pv 0 σ H)
    (hs : ∀ i σ H, i < n.toNat → Pv i σ H → g (.int i) σ H fun σ2 H2 => tb ⟨Pv (i + 1), b, a, Pv (i + 1)⟩ σ2 H2) (hd : ∀ σ H, Pv n.toNat σ H → a σ H) :
    ∃ j : Int, [V.int n] = [.int j] ∧ -(2 ^ 62) ≤ j ∧ j < 2 ^ 62 ∧ ForEnd g tb a b σ (Itr 0 j.toNat) H :=
  ⟨n, rfl, h1, h2, for_range (D := ⟨a, b, fun _ _ => False, fun _ _ => False⟩) Pv h0 (fun i σ H hi p => by have q := hs i σ H hi p; rw [Int.zero_add]; exact q) hd⟩
theorem w_while {a : L2.St → Hp → Prop} {b : VK} {c d : L2.St → Hp → Prop} {tc : TT} {tb : TS} (Pv : L2.St → Hp → Prop) (μ : L2.St → Hp → Nat) (h0 : Pv σ H)
    (hs : ∀ σ H, Pv σ H → tc σ H fun b' H1 => if b' = true then tb ⟨fun σ' H' => Pv σ' H' ∧ μ σ' H' < μ σ H, b, a, fun σ' H' => Pv σ' H' ∧ μ σ' H' < μ σ H⟩ σ H1 else a σ H1)
    (mono : ∀ σ H Q Q', (∀ b H1, Q b H1 → Q' b H1) → tc σ H Q → tc σ H Q') : tWhile tc tb ⟨a, b, c, d⟩ σ H := while_by Pv μ h0 hs mono
theorem g_itT {b : Bool} {A B : Prop} (h : b = true) (q : A) : if b = true then A else B := by rw [h]; exact iteT q
theorem g_itF {b : Bool} {A B : Prop} (h : b = false) (q : B) : if b = true then A else B := by rw [h]; exact iteF q
theorem g_ite {c : Prop} [Decidable c] {A B : Prop} (h1 : c → A) (h2 : ¬ c → B) : if decide c = true then A else B := by
  by_cases h : c
  · rw [decide_eq_true h]; exact iteT (h1 h)
  · rw [decide_eq_false h]; exact iteF (h2 h)
theorem g_iteN {c : Prop} [Decidable c] {A B : Prop} (h1 : ¬ c → A) (h2 : c → B) : if (!decide c) = true then A else B := by
  by_cases h : c
  · rw [decide_eq_true h]; exact iteF (h2 h)
  · rw [decide_eq_false h]; exact iteT (h1 h)
theorem g_len {p : Addr} {xs : List V} (h : SqL K H p xs ∨ SqT K H p xs) (q : Q (.int xs.length) H) : rLen K [.ref p] H Q := ⟨p, xs, rfl, h, q⟩
theorem g_ixL {p : Addr} {xs : List V} (h : SqL K H p xs) (ha : atI xs n = some v) (q : Q v H) : rIxL K (.ref p) (.int n) H Q := ⟨p, xs, n, v, rfl, rfl, h, ha, q⟩
theorem g_ixT {p : Addr} {xs : List V} (h : SqT K H p xs) (ha : atI xs n = some v) (q : Q v H) : rIxT K (.ref p) (.int n) H Q := ⟨p, xs, n, v, rfl, rfl, h, ha, q⟩
theorem g_setL {p : Addr} {xs : List V} {j : Nat} {q : Hp → Prop} (h : H p = some (.lst xs)) (hj : ixN xs.length n = some j) (k : q (upd H p (.lst (xs.set j v)))) : rSetL (.ref p) (.int n) v H q := ⟨p, xs, n, j, rfl, rfl, h, hj, k⟩
theorem mulW_small {i j : Int} (h1 : 0 ≤ i) (h2 : i < 2147483648) (h3 : 0 ≤ j) (h4 : j < 2147483648) : CMulW i j := wide_mul (a := 31) (b := 31) (by show _ < 2147483648; omega) (by show _ < 2147483648; omega) (by decide) (by decide) (by decide)
theorem divW_small {i j : Int} (h1 : 0 < j) (h2 : j < 10 ^ 38) : CDivW i j := wide_div (b := 127) h1 (by show _ < (2 : Nat) ^ 127; omega) (by decide) (by decide)
theorem g_append {p : Addr} {xs : List V} (h : H p = some (.lst xs)) (hl : xs.length < 100000) (q : Q .non (upd H p (.lst (xs ++ [v])))) : rAppend (.ref p) [v] H Q := ⟨p, xs, v, rfl, rfl, h, Nat.lt_of_lt_of_le hl (by decide), q⟩
theorem g_tyL {p : Addr} {xs : List V} {R : Prop} (h : H p = some (.lst xs)) (q : R) : tyV K "list" (.ref p) H ∧ R := ⟨.inl ⟨rfl, _, SqL.of h⟩, q⟩
theorem g_listOf {p : Addr} {xs : List V} (h : SqL K H p xs) (q : ∀ l, H l = none → Q (.ref l) (upd H l (.lst xs))) : rListOf K [.ref p] H Q := ⟨p, xs, rfl, .inl h, q⟩
theorem g_listOfT {p : Addr} {xs : List V} (h : SqT K H p xs) (q : ∀ l, H l = none → Q (.ref l) (upd H l (.lst xs))) : rListOf K [.ref p] H Q := ⟨p, xs, rfl, .inr h, q⟩
theorem g_int1B {b : Bool} (q : Q (.int (if b then 1 else 0)) H) : rInt1 [.bl b] H Q := .inr ⟨b, rfl, q⟩
theorem g_gtup {p : Addr} {xs : List V} {k : Nat} {tg : TGs} {Qg : L2.St → Hp → Prop} (h : SqT K H p xs) (hl : xs.length = k) (q : tg xs σ H Qg) : gTup K k tg (.ref p) σ H Qg := ⟨p, xs, rfl, h, hl, q⟩
theorem g_isi {c : V} {tv uv : Value} {b : Bool} (h1 : ClsV c uv) (h2 : TyX K H x tv) (h3 : PySem.W.kitOne K tv uv = some b) (q : Q (.bl b) H) : rIsi K [x, c] H Q := ⟨x, c, tv, uv, b, rfl, h1, h2, h3, q⟩
theorem g_max2 (q : Q (.int (if m > n then m else n)) H) : rMax2 [.int n, .int m] H Q := ⟨n, m, rfl, q⟩
theorem g_min2 (q : Q (.int (if m < n then m else n)) H) : rMin2 [.int n, .int m] H Q := ⟨n, m, rfl, q⟩
end

/-! ### heaps in which the list at S changes -/
def Frm (S : Addr) (H H' : Hp) : Prop := ∀ b o, b ≠ S → H b = some o → H' b = some o
theorem Frm.refl (S : Addr) (H : Hp) : Frm S H H := fun _ _ _ h => h
theorem Frm.trans {S : Addr} {H H1 H2 : Hp} (a : Frm S H H1) (b : Frm S H1 H2) : Frm S H H2 := fun c o n h => b c o n (a c o n h)
theorem Frm.of {S : Addr} {H H' : Hp} (e : Same H H') : Frm S H H' := fun b o _ h => e b o h
theorem Frm.set {S : Addr} {H : Hp} {o : HO} : Frm S H (upd H S o) := fun b u n h => by rw [upd_ne n]; exact h
theorem same_new {H : Hp} {p : Addr} {o : HO} (h : H p = none) : Same H (upd H p o) := fun b u e => by rw [upd_ne (ne_of_none e h)]; exact e
/-- what may be read at a, whatever becomes of S -/
def ScL (K : PySem.W.Frag) (S : Addr) (H : Hp) (a : Addr) (xs : List V) : Prop := (a ≠ S ∧ Rd H a (.lst xs)) ∨ ∀ H', SqL K H' a xs
theorem ScL.sq {K : PySem.W.Frag} {S : Addr} {H : Hp} {a : Addr} {xs : List V} (h : ScL K S H a xs) : SqL K H a xs := by
  rcases h with ⟨_, h⟩ | h
  · exact .inl h
  · exact h H
theorem ScL.frm {K : PySem.W.Frag} {S : Addr} {H H' : Hp} {a : Addr} {xs : List V} (h : ScL K S H a xs) (f : Frm S H H') : ScL K S H' a xs := by
  rcases h with ⟨n, h⟩ | h
  · refine .inl ⟨n, ?_⟩
    rcases h with h | ⟨o, h⟩
    · exact .inl (f _ _ n h)
    · exact .inr ⟨o, f _ _ n h⟩
  · exact .inr h
theorem ScL.of {K : PySem.W.Frag} {S : Addr} {H H' : Hp} {a : Addr} {xs : List V} (h : SqL K H a xs) (e : Same H H') (n : H S = none) : ScL K S H' a xs := by
  rcases h with h | h
  · rcases h with h | ⟨o, h⟩
    · exact .inl ⟨ne_of_none h n, .inl (e _ _ h)⟩
    · exact .inl ⟨ne_of_none h n, .inr ⟨o, e _ _ h⟩⟩
  · exact .inr fun H' => .inr h
/-- the drawing's state at S; what B tracks stands as it stood -/
def Dst (K : PySem.W.Frag) (B H : Hp) (S : Addr) : Prop := ∃ (sc : Addr) (ns : List Int) (c m r : Int), H S = some (.lst [.ref sc, .int c, .int m, .int r]) ∧ ScL K S B sc (ns.map V.int) ∧ Frm S B H ∧ ns.length ≤ 63 ∧ 0 ≤ c ∧ 0 ≤ m ∧ m < 2147483647
theorem Dst.same {K : PySem.W.Frag} {B H H' : Hp} {S : Addr} (d : Dst K B H S) (e : Same H H') : Dst K B H' S := by
  obtain ⟨sc, ns, c, m, r, h1, h2, h3, h4⟩ := d
  exact ⟨sc, ns, c, m, r, e _ _ h1, h2, h3.trans (.of e), h4⟩
theorem Dst.has {K : PySem.W.Frag} {B H : Hp} {S : Addr} (d : Dst K B H S) : H S ≠ none := by
  obtain ⟨sc, ns, c, m, r, h1, _⟩ := d
  rw [h1]; exact fun z => nomatch z
theorem Dst.ne {K : PySem.W.Frag} {B H : Hp} {S p : Addr} (d : Dst K B H S) (h : H p = none) : p ≠ S := fun e => d.has (e ▸ h)
theorem Dst.fresh {K : PySem.W.Frag} {B H : Hp} {S p : Addr} (d : Dst K B H S) (h : H p = none) : B p = none := by
  have n := d.ne h
  obtain ⟨sc, ns, c, m, r, h1, h2, h3, h4⟩ := d
  cases e : B p with
  | none => rfl
  | some o => rw [h3 p o n e] at h; cases h
/-- a thing that B does not know changes -/
theorem Dst.mut {K : PySem.W.Frag} {B H : Hp} {S p : Addr} {o : HO} (d : Dst K B H S) (n : p ≠ S) (h : B p = none) : Dst K B (upd H p o) S := by
  obtain ⟨sc, ns, c, m, r, h1, h2, h3, h4⟩ := d
  refine ⟨sc, ns, c, m, r, ?_, h2, fun b u hb e => ?_, h4⟩
  · rw [upd_ne n.symm]; exact h1
  · rw [upd_ne (ne_of_none e h)]; exact h3 b u hb e
theorem Frm.mut {S p : Addr} {H H' : Hp} {o : HO} (f : Frm S H H') (h : H p = none) : Frm S H (upd H' p o) := fun b u n e => by
  rw [upd_ne (ne_of_none e h)]; exact f b u n e
theorem Frm.new {S p : Addr} {H : Hp} {o : HO} (h : H p = none) : Frm S H (upd H p o) := .of (same_new h)
theorem Frm.back {S p : Addr} {H H' : Hp} (f : Frm S H H') (n : p ≠ S) (h : H' p = none) : H p = none := by
  cases e : H p with
  | none => rfl
  | some o => rw [f p o n e] at h; cases h
theorem Same.back {H H' : Hp} {p : Addr} (f : Same H H') (h : H' p = none) : H p = none := by
  cases e : H p with
  | none => rfl
  | some o => rw [f p o e] at h; cases h
theorem Same.mut {H H' : Hp} {p : Addr} {o : HO} (f : Same H H') (h : H p = none) : Same H (upd H' p o) := fun b u e => by
  rw [upd_ne (ne_of_none e h)]; exact f b u e
theorem pow_small {i j : Int} (h0 : 0 ≤ j) (h1 : j ≤ 1000) (h2 : i.natAbs < 2 ^ 32) : CPow i j := ⟨h0, by omega, Nat.lt_trans h2 (by decide)⟩
theorem atI_mem {xs : List V} {z : Int} (h0 : 0 ≤ z) (h1 : z < xs.length) : ∃ x, x ∈ xs ∧ atI xs z = some x := by
  have hl : z.toNat < xs.length := by omega
  exact ⟨xs[z.toNat], List.getElem_mem hl, at_of (j := z.toNat) (by omega) (List.getElem?_eq_getElem hl)⟩
theorem map_at {ns : List Int} {i : Nat} {x : V} (h : (ns.map V.int)[i]? = some x) : ∃ n, ns[i]? = some n ∧ x = V.int n := by
  rw [List.getElem?_map] at h
  cases hq : ns[i]? with
  | none => rw [hq] at h; cases h
  | some z => rw [hq] at h; exact ⟨z, rfl, (Option.some.inj h).symm⟩
/-- what stands beside S -/
def Live (S : Addr) (H : Hp) (L : List (Addr × HO)) : Prop := ∀ p ∈ L, p.1 ≠ S ∧ H p.1 = some p.2
theorem Live.nil {S : Addr} {H : Hp} : Live S H [] := fun _ h => (List.not_mem_nil h).elim
theorem Live.frm {S : Addr} {H H' : Hp} {L : List (Addr × HO)} (l : Live S H L) (f : Frm S H H') : Live S H' L := fun p h => ⟨(l p h).1, f _ _ (l p h).1 (l p h).2⟩
theorem Live.cons {S : Addr} {H : Hp} {L : List (Addr × HO)} {a : Addr} {o : HO} (l : Live S H L) (n : a ≠ S) (h : H a = some o) : Live S H ((a, o) :: L) := fun p hp => by
  rcases List.mem_cons.mp hp with e | e
  · subst e; exact ⟨n, h⟩
  · exact l p e
theorem Live.get {S : Addr} {H : Hp} {L : List (Addr × HO)} (l : Live S H L) (i : Nat) {a : Addr} {o : HO} (h : L[i]? = some (a, o)) : H a = some o := (l _ (List.mem_of_getElem? h)).2
theorem Live.ne {S : Addr} {H : Hp} {L : List (Addr × HO)} (l : Live S H L) (i : Nat) {a : Addr} {o : HO} (h : L[i]? = some (a, o)) : a ≠ S := (l _ (List.mem_of_getElem? h)).1
/-- a new object is laid -/
theorem Live.new {S : Addr} {H : Hp} {L : List (Addr × HO)} {p : Addr} {o : HO} (l : Live S H L) (hp : H p = none) (hS : H S ≠ none) : Live S (upd H p o) ((p, o) :: L) :=
  (l.frm (.of (same_new hp))).cons (fun e => hS (e ▸ hp)) upd_same

/-! ### == of data -/
section
variable {K : PySem.W.Frag} {H : Hp} {Q : VK}
theorem dpAll_ints : ∀ ns : List Int, DpAll K H (ns.map V.int) (ns.map PyData.int)
  | [] => .nil
  | n :: ns => .cons (.int n) (dpAll_ints ns)
theorem dp_ints {a : Addr} {ns : List Int} (h : SqL K H a (ns.map V.int)) : Dp K H (.ref a) (.list (ns.map PyData.int)) := .lst h (dpAll_ints ns)
theorem eqvAll_ints : ∀ ns ms : List Int, PyData.eqvAll (ns.map PyData.int) (ms.map PyData.int) = decide (ns = ms)
  | [], [] => by simp [PyData.eqvAll]
  | [], _ :: _ => by simp [PyData.eqvAll]
  | _ :: _, [] => by simp [PyData.eqvAll]
  | n :: ns, m :: ms => by
    have ih := eqvAll_ints ns ms
    simp only [List.map_cons, PyData.eqvAll, ih, PyData.eqv]
    by_cases h1 : n = m <;> by_cases h2 : ns = ms <;> simp [h1, h2]
theorem eqv_ints (ns ms : List Int) : PyData.eqv (.list (ns.map PyData.int)) (.list (ms.map PyData.int)) = decide (ns = ms) := by
  rw [PyData.eqv]; exact eqvAll_ints ns ms
theorem g_eqLI {a b : Addr} {ns ms : List Int} (h1 : SqL K H a (ns.map V.int)) (h2 : SqL K H b (ms.map V.int)) (q : Q (.bl (decide (ns = ms))) H) : rEqD K (.ref a) (.ref b) H Q :=
  ⟨_, _, dp_ints h1, dp_ints h2, PySem.W.ke_shaped_ints ns, PySem.W.ke_shaped_ints ms, by rw [eqv_ints]; exact q⟩
theorem g_neLI {a b : Addr} {ns ms : List Int} (h1 : SqL K H a (ns.map V.int)) (h2 : SqL K H b (ms.map V.int)) (q : Q (.bl (!decide (ns = ms))) H) : rNeD K (.ref a) (.ref b) H Q :=
  ⟨_, _, dp_ints h1, dp_ints h2, PySem.W.ke_shaped_ints ns, PySem.W.ke_shaped_ints ms, by rw [eqv_ints]; exact q⟩
end
section
variable {σ : L2.St} {H : Hp}
/-- a while, by an invariant that bears its measure -/
theorem w_loop {a : L2.St → Hp → Prop} {b : VK} {c d : L2.St → Hp → Prop} {tc : TT} {tb : TS} (Pv : Nat → L2.St → Hp → Prop) (m0 : Nat) (h0 : Pv m0 σ H)
    (hs : ∀ m σ H, Pv m σ H → tc σ H fun b' H1 => if b' = true then ∃ N : L2.St → Hp → Prop, (∀ σ' H', N σ' H' → ∃ m', m' < m ∧ Pv m' σ' H') ∧ tb ⟨N, b, a, N⟩ σ H1 else a σ H1) : tWhile tc tb ⟨a, b, c, d⟩ σ H := ⟨Pv, ⟨m0, h0⟩, hs⟩
end
section
variable {K : PySem.W.Frag} {H : Hp} {Q : VK}
theorem g_slL {a : Addr} {xs : List V} {lo hi : Option Int} (h : SqL K H a xs) (q : ∀ p, H p = none → Q (.ref p) (upd H p (.lst (cutV xs lo hi)))) : rSlL K (.ref a) lo hi H Q := ⟨a, xs, rfl, h, q⟩
theorem cut1 (xs : List V) : cutV xs (some 1) none = xs.drop 1 := by
  unfold cutV
  rw [show (some (1 : Int)) = some ((1 : Nat) : Int) from rfl, HT.sIx_nat, HT.sIx_none]
  cases xs with
  | nil => rfl
  | cons x xs =>
    have e : min 1 (x :: xs).length = 1 := by simp
    rw [e]
    show List.take ((x :: xs).length - 1) xs = xs
    simp
end
theorem tup_same {K : PySem.W.Frag} {H H' : Hp} {a : Addr} {xs : List V} (e : Same H H') (h : SqT K H a xs) : SqT K H' a xs := by
  rcases h with (h | ⟨o, h⟩) | h
  · exact .inl (.inl (e _ _ h))
  · exact .inl (.inr ⟨o, e _ _ h⟩)
  · exact .inr h

/-! ### data: kinds, and as they stand later -/
section
variable {K : PySem.W.Frag} {H H' : Hp} {Q : VK} {σ : L2.St}
theorem ty_list {a : Addr} {xs : List V} (h : SqL K H a xs) : TyX K H (.ref a) (.type "list") := by
  rcases h with (h | ⟨o, h⟩) | h
  · exact .base (.lst h)
  · exact .base (.frz h)
  · obtain ⟨o, items, n, h1, h2, _⟩ := h
    exact .kList h1 h2
theorem ty_tup {a : Addr} {xs : List V} (h : SqT K H a xs) : TyX K H (.ref a) (.type "tuple") := by
  rcases h with (h | ⟨o, h⟩) | h
  · exact .base (.tup h)
  · exact .fTuple h
  · obtain ⟨o, items, n, h1, h2, _⟩ := h
    exact .kTuple h1 h2
theorem list_same {a : Addr} {xs : List V} (e : Same H H') (h : SqL K H a xs) : SqL K H' a xs := e.seq h
mutual
theorem Dp_same (e : Same H H') : ∀ (d : PyData) (v : V), Dp K H v d → Dp K H' v d
  | .none, _, h => by cases h; exact .non
  | .bool b, _, h => by cases h; exact .bl b
  | .int i, _, h => by cases h; exact .int i
  | .str x, _, h => by cases h; exact .str x
  | .list ds, _, h => by
    cases h with
    | lst hs ha => exact .lst (list_same e hs) (DpAll_same e ds _ ha)
  | .tuple ds, _, h => by
    cases h with
    | tup hs ha => exact .tup (tup_same e hs) (DpAll_same e ds _ ha)
  | .dict _, _, h => by cases h
theorem DpAll_same (e : Same H H') : ∀ (ds : List PyData) (vs : List V), DpAll K H vs ds → DpAll K H' vs ds
  | [], _, h => by cases h; exact .nil
  | d :: ds, _, h => by
    cases h with
    | cons h1 h2 => exact .cons (Dp_same e d _ h1) (DpAll_same e ds _ h2)
end
theorem DpAll.len : ∀ {vs : List V} {ds : List PyData}, DpAll K H vs ds → vs.length = ds.length
  | [], [], _ => rfl
  | _ :: _, _ :: _, .cons _ h => by rw [List.length_cons, List.length_cons, DpAll.len h]
theorem DpAll.at : ∀ {vs : List V} {ds : List PyData} {i : Nat} {d : PyData}, DpAll K H vs ds → ds[i]? = some d → ∃ v, vs[i]? = some v ∧ Dp K H v d
  | _, _, 0, d, .cons h _, e => by cases e; exact ⟨_, rfl, h⟩
  | _, _, i + 1, d, .cons _ h, e => DpAll.at (i := i) h e
/-- small data of the four flat kinds, lists and tuples, at most so deep -/
inductive OkD : Nat → PyData → Prop
  | non {n : Nat} : OkD n .none
  | bl {n : Nat} (b : Bool) : OkD n (.bool b)
  | int {n : Nat} (i : Int) : OkD n (.int i)
  | str {n : Nat} (x : Str) : OkD n (.str x)
  | lst {n : Nat} {ds : List PyData} : ds.length ≤ 100000 → (∀ d ∈ ds, OkD n d) → OkD (n + 1) (.list ds)
  | tup {n : Nat} {ds : List PyData} : ds.length ≤ 100000 → (∀ d ∈ ds, OkD n d) → OkD (n + 1) (.tuple ds)
theorem g_isiT {x : V} {tp : Addr} {cs : List V} {t : Value} {us : List Value} {b : Bool} (hT : H tp = some (.tup cs)) (hc : Paired ClsV cs us) (ty : TyX K H x t) (hk : PySem.W.kitAny K t us = some b) (q : Q (.bl b) H) : rIsiT K [x, .ref tp] H Q :=
  ⟨x, tp, cs, t, us, b, rfl, hT, hc, ty, hk, q⟩
/-- t is one of two built-in types, or none of them -/
theorem kit2 {t a b : String} {r1 r2 : Bool} (h1 : kitB t a = some r1) (h2 : kitB t b = some r2) : PySem.W.kitAny K (.type t) [.type a, .type b] = some (r1 || r2) := by
  refine kitAny_cons (kit_ty h1) (fun e => ?_) (fun e => by rw [e]; rfl)
  rw [e]
  exact kitAny_cons (kit_ty h2) (fun e2 => by rw [e2]; rfl) (fun e2 => by rw [e2]; rfl)
theorem g_isiB {x c : V} {tn cn : String} {b : Bool} (h1 : ClsV c (.type cn)) (h2 : TyX K H x (.type tn)) (h3 : kitB tn cn = some b) (q : Q (.bl b) H) : rIsi K [x, c] H Q := ⟨x, c, .type tn, .type cn, b, rfl, h1, h2, kit_ty h3, q⟩
def LcEnd (g : TG) (tt : TT) (te : TE) (vs : List Nat) (σ : L2.St) (Q : VK) (J : It) (H1 : Hp) : Prop := ∀ D, H1 D = none → ∃ W : Nat → Nat → Hp → Prop, (∃ m, W 0 m (upd H1 D (.lst []))) ∧ ∀ i m H, W i m H →
  (J.stop i H ∧ Q (.ref D) H) ∨ (J.go i H ∧ ∃ Nx : Hp → Prop, (∀ H', Nx H' → ∃ m', m' < m ∧ W (i + 1) m' H') ∧ ∀ x H', J.yld i H x H' → g x (wipe σ vs) H' fun σ2 H2 => wipe σ2 vs = wipe σ vs ∧ tt σ2 H2 fun b H3 =>
    if b = true then te σ2 H3 fun y H4 => ∃ acc, H4 D = some (.lst acc) ∧ acc.length < sizeLine ∧ Nx (upd H4 D (.lst (acc ++ [y]))) else Nx H3)
theorem g_lc {wi : TI} {g : TG} {tt : TT} {te : TE} {vs : List Nat} (h : wi σ H (LcEnd g tt te vs σ Q)) : tLc wi g tt te vs σ H Q := h
theorem g_yes {QB : Bool → Hp → Prop} (q : QB true H) : tYes σ H QB := q
theorem w_lcRange {g : TG} {tt : TT} {te : TE} {vs : List Nat} {n : Int} (h1 : -(2 ^ 62) ≤ n) (h2 : n < 2 ^ 62) (Pv : Addr → Nat → Hp → Prop) (h0 : ∀ D, H D = none → Pv D 0 (upd H D (.lst [])))
    (hs : ∀ D i H', H D = none → i < n.toNat → Pv D i H' → g (.int i) (wipe σ vs) H' fun σ2 H2 => wipe σ2 vs = wipe σ vs ∧ tt σ2 H2 fun b H3 =>
      if b = true then te σ2 H3 fun y H4 => ∃ acc, H4 D = some (.lst acc) ∧ acc.length < sizeLine ∧ Pv D (i + 1) (upd H4 D (.lst (acc ++ [y]))) else Pv D (i + 1) H3) (hd : ∀ D H', H D = none → Pv D n.toNat H' → Q (.ref D) H') :
    ∃ j : Int, [V.int n] = [.int j] ∧ -(2 ^ 62) ≤ j ∧ j < 2 ^ 62 ∧ LcEnd g tt te vs σ Q (Itr 0 j.toNat) H :=
  ⟨n, rfl, h1, h2, fun D hD => lc_range (Pv D) (h0 D hD) (fun i H' hi p => by have q := hs D i H' hD hi p; rw [Int.zero_add]; exact q) (fun H' p => hd D H' hD p)⟩
end

/-! ### tables of code objects beside the drawing -/
/-- H without its tables -/
def noT (H : Hp) : Hp := fun b => match H b with
  | some (.tbl _) => none
  | o => o
theorem noT_some {H : Hp} {b : Addr} {o : HO} (h : noT H b = some o) : H b = some o ∧ ∀ ps, o ≠ .tbl ps := by
  unfold noT at h
  split at h
  · cases h
  · rename_i n
    exact ⟨h, fun ps e => n ps (by rw [h, e])⟩
theorem noT_of {H : Hp} {b : Addr} {o : HO} (h : H b = some o) (n : ∀ ps, o ≠ .tbl ps) : noT H b = some o := by
  unfold noT
  split
  · rename_i ps e
    rw [h] at e
    exact absurd (Option.some.inj e) (n ps)
  · exact h
theorem noT_same (H : Hp) : Same (noT H) H := fun _ _ h => (noT_some h).1
theorem noT_list {K : PySem.W.Frag} {H : Hp} {a : Addr} {xs : List V} (h : SqL K H a xs) : SqL K (noT H) a xs := by
  rcases h with (h | ⟨o, h⟩) | h
  · exact .inl (.inl (noT_of h (fun _ z => nomatch z)))
  · exact .inl (.inr ⟨o, noT_of h (fun _ z => nomatch z)⟩)
  · exact .inr h
/-- all but S and the tables stays -/
theorem Dst.ext {K : PySem.W.Frag} {H0 H H' : Hp} {S : Addr} (d : Dst K (noT H0) H S) (e : LamX.ExtN H H') : Dst K (noT H0) H' S := by
  obtain ⟨sc, ns, c, m, r, h1, h2, h3, h4⟩ := d
  exact ⟨sc, ns, c, m, r, e _ _ h1 (fun _ z => nomatch z), h2, fun b o n h => e _ _ (h3 b o n h) (noT_some h).2, h4⟩
theorem tabs_frm {K : PySem.W.Frag} {B H H' : Hp} {S : Addr} {T : List (Addr × Str)} (t : LamX.Tabs T H) (d : Dst K B H S) (f : Frm S H H') : LamX.Tabs T H' := fun p hp => by
  obtain ⟨sc, ns, c, m, r, hS, _⟩ := d
  obtain ⟨ps, h1, h2, h3⟩ := t p hp
  refine ⟨ps, f _ _ (ne_of h1 hS (fun z => nomatch z)) h1, h2, fun pos cv hc => ?_⟩
  obtain ⟨c', e1, e2⟩ := h3 pos cv hc
  exact ⟨c', e1, f _ _ (ne_of e2 hS (fun z => nomatch z)) e2⟩
theorem tabs_same {H H' : Hp} {T : List (Addr × Str)} (t : LamX.Tabs T H) (e : Same H H') : LamX.Tabs T H' := t.ext e
section
variable {P : Program} {w : World} {K : PySem.W.Frag} {mg : Str → Option Value} {base : Heap}
/-- a def whose code object is told -/
theorem fn_code {k : Nat} {f : Addr} {name qual : Str} {params : Arguments} {body : List Stmt} {scope : Scope} {dV kV doc pm cdv ct oc : Value} {an od : Option Addr} {osl : Array (Option Value)} {N ps : List Str} {sp : Sp}
    (lk : K.lookup f = some ⟨oc, od, .func (PySem.W.fnOf name qual params body scope dV kV doc pm an cdv ct), osl⟩) (hcd : PySem.W.codeIn K cdv qual = true) (S : FnScope N ps scope) (len : ∀ vs H Q E, sp vs H Q E → vs.length = ps.length)
    (hbody : ∀ (A : Around) (outer : List Env) (s : Shared) (H : Hp) (vs : List V) (Q : VK) (E : XK), Room k (A.deeper (envOfC qual scope s.heap.objs.size f cdv)) → sp vs H Q E →
      ∃ t, PSs (cxOf C8.CX0 P w K mg base N qual scope f cdv A outer s H E).nox body t ∧ t { nx := fun _ H' => Q .non H', rt := Q } (L2.start N vs) H) :
    FnOk P w K mg base C8.CX0 (k + 1) f (PySem.W.fnOf name qual params body scope dV kV doc pm an cdv ct) ps sp :=
  fn_of lk hcd S len fun A outer s H vs Q E hr hsp => (hbody A outer s H vs Q E hr hsp).elim fun t h => ⟨t, h.1.nox, h.2⟩
end
theorem g_lam {T : List (Addr × Str)} {TT : (XK → Hp → VK → Prop) → Hp → VK → Prop} {t : XK → TE} {σ : L2.St} {H : Hp} {Q : VK} (h : LamX.Tabs T H) (q : ∀ H1, LamX.ExtN H H1 → LamX.Tabs T H1 → TT (fun E H' Q' => t E σ H' Q') H1 Q) : LamX.tLam T TT t σ H Q := ⟨h, q⟩
end Wd
local macro_rules | `(tactic| walk_at "go") => `(tactic| repeat (first
  | with_reducible refine Wd.g_seq ?_
  | ((with_reducible show L2.Ends.nx _ _ _); (with_reducible refine Wd.g_nx ?_))
  | with_reducible refine Wd.g_asg ?_
  | ((with_reducible refine' Wd.g_var ?h1 ?_); (case h1 => exact rfl))
  | with_reducible refine Wd.g_c ?_
  | with_reducible refine Wd.g_op ?_
  | with_reducible refine Wd.g_un ?_
  | with_reducible refine Wd.g_I0 ?_
  | with_reducible refine Wd.g_U ?_
  | with_reducible refine Wd.g_eqI ?_
  | with_reducible refine Wd.g_neI ?_
  | with_reducible refine Wd.g_eqS ?_
  | with_reducible refine Wd.g_neS ?_
  | with_reducible refine Wd.g_eqB ?_
  | with_reducible refine Wd.g_neB ?_
  | with_reducible refine Wd.g_isN ?_
  | with_reducible refine Wd.g_notN ?_
  | with_reducible refine Wd.g_lc ?_
  | with_reducible refine Wd.g_yes ?_
  | with_reducible refine Wd.g_test ?_
  | with_reducible refine Wd.g_tB ?_
  | with_reducible refine Wd.g_bl ?_
  | with_reducible refine Wd.g_blI ?_
  | with_reducible refine Wd.g_and ?_
  | with_reducible refine Wd.g_or ?_
  | with_reducible refine Wd.g_not ?_
  | with_reducible refine Wd.g_andV ?_
  | with_reducible refine Wd.g_orV ?_
  | with_reducible refine Wd.g_notV ?_
  | with_reducible refine Wd.g_if ?_
  | with_reducible refine Wd.g_chain ?_
  | with_reducible refine Wd.g_chain3 ?_
  | with_reducible refine Wd.g_nil ?_
  | with_reducible refine Wd.g_cons ?_
  | with_reducible refine Wd.g_tup ?_
  | with_reducible refine Wd.g_lst ?_
  | with_reducible refine Wd.g_CB ?_
  | with_reducible refine Wd.g_call ?_
  | with_reducible refine Wd.g_callS ?_
  | with_reducible refine Wd.g_bm ?_
  | with_reducible refine Wd.g_bm0 ?_
  | with_reducible refine Wd.g_sl ?_
  | with_reducible refine Wd.g_part ?_
  | with_reducible refine Wd.g_part1 ?_
  | with_reducible refine Wd.g_noPart ?_
  | with_reducible refine Wd.g_next ?_
  | with_reducible refine Wd.g_name ?_
  | with_reducible refine Wd.g_sub ?_
  | with_reducible refine Wd.g_gnil ?_
  | with_reducible refine Wd.g_gcons ?_
  | with_reducible refine Wd.g_drop ?_
  | with_reducible refine Wd.g_ret ?_
  | with_reducible refine Wd.g_retN ?_
  | with_reducible refine Wd.g_brk ?_
  | with_reducible refine Wd.g_cont ?_
  | with_reducible refine Wd.g_ifS ?_
  | ((with_reducible show L2.Ends.bk _ _ _); (with_reducible refine Wd.g_bk ?_))
  | ((with_reducible show L2.Ends.ct _ _ _); (with_reducible refine Wd.g_ct ?_))
  | ((with_reducible show L2.Ends.rt _ _ _); (with_reducible refine Wd.g_rt ?_))
  | with_reducible refine Wd.g_for ?_
  | with_reducible refine Wd.g_rng1 ?_
  | with_reducible refine Wd.g_rng2 ?_
  | with_reducible refine Wd.g_iList ?_
  | with_reducible refine Wd.g_iTup ?_
  | ((with_reducible refine Wd.g_fit ?h1 ?_); (case h1 => exact rfl))
  | with_reducible refine Wd.g_max2 ?_
  | with_reducible refine Wd.g_min2 ?_
  | with_reducible refine Wd.g_int1B ?_
  | with_reducible refine L2.iteT ?_
  | with_reducible refine L2.iteF ?_
  | ((with_reducible refine Wd.g_itT ?h1 ?_); (case h1 => exact rfl))
  | ((with_reducible refine Wd.g_itF ?h1 ?_); (case h1 => exact rfl))))
/-! Plans as data; tuples that are repeated, made of lists; lists within comprehensions. -/
namespace Wd
open PySem PySem.Spec PyProof.Rows L2

/-! ### t * k, k from 0 on -/
theorem mul_once (l : Addr) (items : Array Value) (n : Nat) (dd : Option Addr) (sl : Array (Option Value)) (u : Tok) :
    Meets (Builtin.«tuple.__mul__» ⟨[.ref l, .int 1 u], []⟩) (fun _ R s => s.heap.get? l = some { cls := .type "tuple", dict := dd, data := .seq items n, slots := sl } ∧ R (.ok (.ret (Value.ref l))) s) :=
  .of_wp fun prog w A R s h => by
    obtain ⟨hp, g, d, tk, os⟩ := s
    obtain ⟨hl, q⟩ := h
    have one := AutoSeq1.idx_int
    wp_walk using AutoSeq1.wpAny_loadPart' hl
    exact ⟨_, rfl, q⟩
theorem mul_none (l : Addr) (items : Array Value) (n : Nat) (dd : Option Addr) (sl : Array (Option Value)) (u : Tok) (h2 : items.isEmpty = false) :
    Meets (Builtin.«tuple.__mul__» ⟨[.ref l, .int 0 u], []⟩) (fun _ R s => s.heap.get? l = some { cls := .type "tuple", dict := dd, data := .seq items n, slots := sl } ∧
      R (.ok (.ret (Value.ref s.heap.objs.size))) { s with heap := s.heap.push { cls := Value.type "tuple", data := Data.seq #[] }, toks := s.toks }) :=
  .of_wp fun prog w A R s h => by
    obtain ⟨hp, g, d, tk, os⟩ := s
    obtain ⟨hl, q⟩ := h
    have one := AutoSeq1.idx_int
    wp_walk using AutoSeq1.wpAny_loadPart' hl
    exact ⟨_, rfl, q⟩
def rRepU (K : PySem.W.Frag) : R2 := fun x y H Q => ∃ (l : Addr) (k : Int) (xs : List V), x = .ref l ∧ y = .int k ∧ SqT K H l xs ∧ xs ≠ [] ∧ 0 ≤ k ∧ k ≤ 1000 ∧ xs.length ≤ 1000 ∧ (k = 1 → Q (.ref l) H) ∧
  (k ≠ 1 → ∀ p, H p = none → Q (.ref p) (upd H p (.tup (List.replicate k.toNat xs).flatten)))
section
variable {X : Cx}
theorem op_repU : OpR X (binaryOp .Mult) (rRepU X.K) := by
  intro pins s σ H x y v u Q I rx ry h
  obtain ⟨l, k, xs, rfl, rfl, hT, hne, h0, h1, hz, q1, q2⟩ := h
  by_cases c2 : 2 ≤ k
  · exact op_repT pins s σ H _ _ _ _ Q I rx ry ⟨l, k, xs, rfl, rfl, hT, hne, c2, h1, hz, q2 (by omega)⟩
  · cases rx
    obtain ⟨t, rfl⟩ := ry
    obtain ⟨its, r, ⟨⟨cls, dd, data, sl⟩, ho, hc, n, hd⟩, hs⟩ := I.tuple hT
    simp only at hc hd
    subst hc hd
    have c01 : k = 0 ∨ k = 1 := by omega
    rcases c01 with rfl | rfl
    · have hem : its.toArray.isEmpty = false := by
        cases r with
        | nil => exact absurd rfl hne
        | cons _ _ => rfl
      refine wpAny_binaryOp_repeat_ref (T := "tuple") (U := "int") (by decide) ⟨_, ho, rfl⟩ (fun s' => typeIs_int s' 0 t) noFill_tuple_mul F.fills_int_mul F.slot_int_rmul repeat_tuple F.slot_int_index.lookup (call_meets F.slot_int_rmul (typeIs_int s 0 t) F.entry_int_rmul (F.args_int_rmul_2 _ _)
        (int_rmul_tuple 0 t l its.toArray n dd sl) ⟨ho, rfl, ⟨_, ho, rfl⟩, call_meets F.slot_tuple_mul ⟨_, ho, rfl⟩ F.entry_tuple_mul (F.args_tuple_mul_2 _ _) (mul_none l its.toArray n dd sl t hem) ⟨ho, ?_⟩⟩)
      refine ⟨.ref s.heap.objs.size, _, I.laid (t' := s.toks) (o := .tup []) (fun b ob z => Heap.get?_push_of_some _ z) (Nat.le_refl _) ?_, rfl, q2 (by decide) _ (I.hok.fresh (Nat.le_refl _))⟩
      exact ⟨Nat.zero_le _, [], .nil, IsTup.new _ _⟩
    · refine wpAny_binaryOp_repeat_ref (T := "tuple") (U := "int") (by decide) ⟨_, ho, rfl⟩ (fun s' => typeIs_int s' 1 t) noFill_tuple_mul F.fills_int_mul F.slot_int_rmul repeat_tuple F.slot_int_index.lookup (call_meets F.slot_int_rmul (typeIs_int s 1 t) F.entry_int_rmul (F.args_int_rmul_2 _ _)
        (int_rmul_tuple 1 t l its.toArray n dd sl) ⟨ho, rfl, ⟨_, ho, rfl⟩, call_meets F.slot_tuple_mul ⟨_, ho, rfl⟩ F.entry_tuple_mul (F.args_tuple_mul_2 _ _) (mul_once l its.toArray n dd sl t) ⟨ho, ?_⟩⟩)
      exact ⟨.ref l, H, I, rfl, q1 rfl⟩
end

/-! ### more steps -/
def rTupOf (K : PySem.W.Frag) : List V → Hp → VK → Prop := fun xs H Q => ∃ p ys, xs = [.ref p] ∧ ((SqL K H p ys ∧ ∀ l, H l = none → Q (.ref l) (upd H l (.tup ys))) ∨ (SqT K H p ys ∧ Q (.ref p) H))
theorem call_tuple1 {X : Cx} : CallR X (.type "tuple") (rTupOf X.K) := call_tuple_of
section
variable {K : PySem.W.Frag} {H H' : Hp} {Q : VK} {σ : L2.St} {x : V}
theorem g_tupOf {p : Addr} {ys : List V} (h : SqL K H p ys) (q : ∀ l, H l = none → Q (.ref l) (upd H l (.tup ys))) : rTupOf K [.ref p] H Q := ⟨p, ys, rfl, .inl ⟨h, q⟩⟩
theorem g_inT {p : Addr} {xs : List V} (h : SqT K H p xs) (fx : flatV x = true) (fs : xs.all flatV = true) (q : Q (.bl (inV x xs)) H) : rIn K false x (.ref p) H Q := ⟨p, xs, rfl, .inr h, fx, fs, q⟩
theorem g_notInT {p : Addr} {xs : List V} (h : SqT K H p xs) (fx : flatV x = true) (fs : xs.all flatV = true) (q : Q (.bl (!inV x xs)) H) : rIn K true x (.ref p) H Q := ⟨p, xs, rfl, .inr h, fx, fs, q⟩
theorem g_sum {a : Addr} {ns : List Int} (h : SqL K H a (ns.map V.int)) (q : Q (.int ns.sum) H) : rSum K [.ref a] H Q := ⟨a, ns, rfl, h, q⟩
theorem g_pop {l : Addr} {xs : List V} {y : V} (h : H l = some (.lst xs)) (hy : xs[xs.length - 1]? = some y) (q : Q y (upd H l (.lst xs.dropLast))) : rPop (.ref l) [] H Q := ⟨l, xs, y, rfl, rfl, h, hy, q⟩
theorem w_lcTup {g : TG} {tt : TT} {te : TE} {vs : List Nat} {p : Addr} {xs : List V} (hp : SqT K H p xs) (Pv : Addr → Nat → Hp → Prop) (h0 : ∀ D, H D = none → Pv D 0 (upd H D (.lst []))) (hl : ∀ D i H', H D = none → i ≤ xs.length → Pv D i H' → SqT K H' p xs)
    (hs : ∀ D i y H', H D = none → xs[i]? = some y → Pv D i H' → g y (wipe σ vs) H' fun σ2 H2 => wipe σ2 vs = wipe σ vs ∧ tt σ2 H2 fun b H3 =>
      if b = true then te σ2 H3 fun y H4 => ∃ acc, H4 D = some (.lst acc) ∧ acc.length < sizeLine ∧ Pv D (i + 1) (upd H4 D (.lst (acc ++ [y]))) else Pv D (i + 1) H3) (hd : ∀ D H', H D = none → Pv D xs.length H' → Q (.ref D) H') :
    ∃ q, V.ref p = .ref q ∧ (∃ xs, SqT K H q xs) ∧ LcEnd g tt te vs σ Q (Itt K q) H :=
  ⟨p, rfl, ⟨xs, hp⟩, fun D hD => lc_tup (Pv D) (h0 D hD) (fun i H' hi q => hl D i H' hD hi q) (fun i y H' hy q => hs D i y H' hD hy q) (fun H' q => hd D H' hD q)⟩
/-- the end of a comprehension's turn -/
theorem g_lcput {D : Addr} {acc : List V} {y : V} {N : Hp → Prop} (h : H D = some (.lst acc)) (hl : acc.length < 100000) (q : N (upd H D (.lst (acc ++ [y])))) : ∃ acc, H D = some (.lst acc) ∧ acc.length < sizeLine ∧ N (upd H D (.lst (acc ++ [y]))) := ⟨acc, h, Nat.lt_of_lt_of_le hl (by decide), q⟩
end

/-! ### plans -/
inductive Pl where
  | pat
  | work (a b : Int)
  | row (ps : List Pl)
  | either (ps : List Pl)
  | loop (a b : Int) (p : Pl)
/-- tuples stay -/
def KeepT (H H' : Hp) : Prop := ∀ b xs, H b = some (.tup xs) → H' b = some (.tup xs)
theorem KeepT.refl (H : Hp) : KeepT H H := fun _ _ h => h
theorem KeepT.trans {H H1 H2 : Hp} (a : KeepT H H1) (b : KeepT H1 H2) : KeepT H H2 := fun c xs h => b c xs (a c xs h)
theorem keepT_same {H H' : Hp} (e : Same H H') : KeepT H H' := fun b xs h => e b _ h
theorem keepT_new {H : Hp} {p : Addr} {o : HO} (h : H p = none) : KeepT H (upd H p o) := keepT_same (same_new h)
theorem keepT_lst {H : Hp} {p : Addr} {o : HO} {xs : List V} (h : H p = some (.lst xs)) : KeepT H (upd H p o) := fun b ys e => by rw [upd_ne (ne_of e h (fun z => nomatch z))]; exact e
theorem keepT_frm {K : PySem.W.Frag} {B H H' : Hp} {S : Addr} (d : Dst K B H S) (f : Frm S H H') : KeepT H H' := fun b xs h => by
  obtain ⟨sc, ns, c, m, r, hS, _⟩ := d
  exact f b _ (ne_of h hS (fun z => nomatch z)) h
mutual
inductive PlA (H : Hp) : V → Pl → Prop
  | pat {a : Addr} : H a = some (.tup [.str "pat"]) → PlA H (.ref a) .pat
  | work {a : Addr} {x y : Int} : H a = some (.tup [.str "work", .int x, .int y]) → PlA H (.ref a) (.work x y)
  | row {a b : Addr} {vs : List V} {ps : List Pl} : H a = some (.tup [.str "row", .ref b]) → H b = some (.tup vs) → PlAs H vs ps → PlA H (.ref a) (.row ps)
  | either {a b : Addr} {vs : List V} {ps : List Pl} : H a = some (.tup [.str "either", .ref b]) → H b = some (.tup vs) → PlAs H vs ps → PlA H (.ref a) (.either ps)
  | loop {a : Addr} {x y : Int} {u : V} {p : Pl} : H a = some (.tup [.str "loop", .int x, .int y, u]) → PlA H u p → PlA H (.ref a) (.loop x y p)
inductive PlAs (H : Hp) : List V → List Pl → Prop
  | nil : PlAs H [] []
  | cons {v : V} {vs : List V} {p : Pl} {ps : List Pl} : PlA H v p → PlAs H vs ps → PlAs H (v :: vs) (p :: ps)
end
mutual
theorem PlA_keep {H H' : Hp} (e : KeepT H H') : ∀ (p : Pl) (v : V), PlA H v p → PlA H' v p
  | .pat, _, h => by cases h with | pat h => exact .pat (e _ _ h)
  | .work _ _, _, h => by cases h with | work h => exact .work (e _ _ h)
  | .row ps, _, h => by cases h with | row h1 h2 h3 => exact .row (e _ _ h1) (e _ _ h2) (PlAs_keep e ps _ h3)
  | .either ps, _, h => by cases h with | either h1 h2 h3 => exact .either (e _ _ h1) (e _ _ h2) (PlAs_keep e ps _ h3)
  | .loop _ _ p, _, h => by cases h with | loop h1 h2 => exact .loop (e _ _ h1) (PlA_keep e p _ h2)
theorem PlAs_keep {H H' : Hp} (e : KeepT H H') : ∀ (ps : List Pl) (vs : List V), PlAs H vs ps → PlAs H' vs ps
  | [], _, h => by cases h; exact .nil
  | p :: ps, _, h => by cases h with | cons h1 h2 => exact .cons (PlA_keep e p _ h1) (PlAs_keep e ps _ h2)
end
theorem PlAs.len {H : Hp} : ∀ {vs : List V} {ps : List Pl}, PlAs H vs ps → vs.length = ps.length
  | [], [], _ => rfl
  | _ :: _, _ :: _, .cons _ h => by rw [List.length_cons, List.length_cons, PlAs.len h]
theorem PlAs.at {H : Hp} : ∀ {vs : List V} {ps : List Pl} {i : Nat} {v : V}, PlAs H vs ps → vs[i]? = some v → ∃ p, ps[i]? = some p ∧ PlA H v p
  | _, _, 0, _, .cons h _, e => by cases e; exact ⟨_, rfl, h⟩
  | _, _, i + 1, _, .cons _ h, e => PlAs.at (i := i) h e
theorem PlAs.snoc {H : Hp} : ∀ {vs : List V} {ps : List Pl} {v : V} {p : Pl}, PlAs H vs ps → PlA H v p → PlAs H (vs ++ [v]) (ps ++ [p])
  | _, _, _, _, .nil, h => .cons h .nil
  | _, _, _, _, .cons a b, h => .cons a (PlAs.snoc b h)
theorem PlAs.rep {H : Hp} {v : V} {p : Pl} (h : PlA H v p) : ∀ n : Nat, PlAs H (List.replicate n [v]).flatten (List.replicate n p)
  | 0 => .nil
  | n + 1 => .cons h (PlAs.rep h n)
mutual
/-- how many tuples are plans; how deep; how many loops within one another; its bounds as they should be -/
def cnt : Pl → Nat
  | .pat => 1
  | .work _ _ => 1
  | .row ps => 1 + cnts ps
  | .either ps => 1 + cnts ps
  | .loop _ _ p => 1 + cnt p
def cnts : List Pl → Nat
  | [] => 0
  | p :: ps => cnt p + cnts ps
end
mutual
def okP : Nat → Nat → Pl → Prop
  | _, _, .pat => True
  | _, _, .work a b => 0 ≤ a ∧ a ≤ b ∧ b ≤ 1000
  | 0, _, .row _ => False
  | d + 1, l, .row ps => 0 < ps.length ∧ ps.length ≤ 20 ∧ okPs d l ps
  | 0, _, .either _ => False
  | d + 1, l, .either ps => 0 < ps.length ∧ ps.length ≤ 20 ∧ okPs d l ps
  | 0, _, .loop _ _ _ => False
  | _ + 1, 0, .loop _ _ _ => False
  | d + 1, l + 1, .loop a b p => 0 ≤ a ∧ a ≤ b ∧ b ≤ 9 ∧ okP d l p
def okPs : Nat → Nat → List Pl → Prop
  | _, _, [] => True
  | d, l, p :: ps => okP d l p ∧ okPs d l ps
end
theorem okPs_at {d l : Nat} : ∀ {ps : List Pl} {i : Nat} {p : Pl}, okPs d l ps → ps[i]? = some p → okP d l p
  | _ :: _, 0, _, h, e => by cases e; exact h.1
  | _ :: ps, i + 1, _, h, e => okPs_at (ps := ps) (i := i) h.2 e
theorem okPs_snoc {d l : Nat} : ∀ {ps : List Pl} {p : Pl}, okPs d l ps → okP d l p → okPs d l (ps ++ [p])
  | [], _, _, h => ⟨h, trivial⟩
  | _ :: ps, _, h1, h => ⟨h1.1, okPs_snoc h1.2 h⟩
theorem okPs_rep {d l : Nat} {p : Pl} (h : okP d l p) : ∀ n : Nat, okPs d l (List.replicate n p)
  | 0 => trivial
  | n + 1 => ⟨h, okPs_rep h n⟩
theorem cnt_pos : ∀ p : Pl, 1 ≤ cnt p
  | .pat => Nat.le_refl 1
  | .work _ _ => Nat.le_refl 1
  | .row _ => Nat.le_add_right 1 _
  | .either _ => Nat.le_add_right 1 _
  | .loop _ _ _ => Nat.le_add_right 1 _
theorem small_lt {n : Nat} (h : n < 100000) : n < sizeLine := Nat.lt_of_lt_of_le h (by decide)
end Wd
/-! A refusal's own __init__: the __init__ of the class above it, asked of that class by its name. -/
namespace Wd
open PySem PySem.Spec PyProof.Rows L2
section
variable {X : Cx} {e : Expr} {es : List Expr} {ta : TA} {x : Str} {p1 p2 pos : Pos}
/-- N.__init__(self, ..), N a class of the program over ValueError that has no __init__ of its own -/
theorem pe_cinit {pl : Sem Bool} {CD : Addr} {mc : Value} (hg : Gl X x) (hm : X.mg x = some (.ref CD)) (r : ClX.CRead X.K CD mc) (vV : PySem.W.findCls X.K (.ref CD) mc "__init__" = some (.val (.builtin "ValueError.__init__"))) (ha : PA X (e :: es) ta)
    (hdb : (x == ("__debug__" : Str)) = false := by decide)
    (hc : eval (.Call (.Attribute (.Name x p1) "__init__" p2) (e :: es) [] pos) X.env = (do
      let ov ← eval (.Name x p1) X.env
      standAt p2.atName
      let (f, first) ← holding [ov] (getMethod ov "__init__" pl)
      callWith pos f first (backTo pos (starEach (e :: es) X.env)) (backToKw pos (keywordEach [] X.env))) := by rfl)
    (he : starEach (e :: es) X.env = (false, eval e X.env) :: starEach es X.env := by rfl) (hpl : (backTo pos (starEach es X.env)).any (·.1) = false := by rfl) :
    PE X (.Call (.Attribute (.Name x p1) "__init__" p2) (e :: es) [] pos) (tVeI X.K ta) := by
  refine ⟨fun pins s σ H Q I h => ?_⟩
  refine PySem.W.methodCall_KW (ld_glob I hg hm ?_ hdb) hc
  refine PySem.W.method_cls (I.tok _).kIn r.ga (PySem.W.cls_value (I.tok _).kIn r.rd vV (by decide +kernel) ?_)
  show wpAny _ _ (callWith pos (Value.builtin "ValueError.__init__") [] (backTo pos (starEach (e :: es) X.env)) []) _ _ _
  refine PyProof.Rows.callWith_method1 (thn (ha.run pos pins _ σ H _ (I.tok _) h) fun us s1 ⟨vs, H1, I1, r1, a, C, ws, ev, hl, T, ea, q⟩ => ?_) he hpl
  subst ev
  cases r1 with
  | @cons _ u0 _ ur ra rw' =>
    obtain rfl : u0 = Value.ref a := ra
    have hlen : ur.length ≤ sizeLine := by
      rw [← Paired.length rw', sizeLine_eq]
      omega
    exact oinit_ok T I1 ea hlen fun s' J => ⟨.non, H1, J, rfl, q⟩
end
/-! ### a method that may refuse -/
structure MetX (P : Program) (w : World) (K : PySem.W.Frag) (mg : Str → Option Value) (base : Heap) (k : Nat) (C : Addr) (m : Str) (sp : Sp) : Prop where
  ex : ∃ (f : Addr) (fd : FuncData) (ps : List Str), Cls K C ∧ Meth K C m f ∧ FnOk P w K mg base (L2.CX P w) k f fd ps sp ∧ Binds K fd ps []
def tMethX (C : Addr) (m : Str) (sp : Sp) (E : L2.St → XK) (ta : TE) (t : TA) : TE := fun σ H Q => ta σ H fun y H1 => ∃ a dx fs, y = .ref a ∧ H1 a = some (.ins C dx fs) ∧ fs.lookup m = none ∧ t σ H1 fun vs H2 => sp (y :: vs) H2 Q (E σ)
section
variable {X : Cx} {k j : Nat} {C : Addr} {m : Str} {sp : Sp} {pos apos : Pos} {o e : Expr} {es : List Expr} {ta : TE} {t : TA} {E : L2.St → XK}
theorem pe_mX {pl : Sem Bool} (c : MetX X.prog X.w X.K X.mg X.base k C m sp) (hr : Room j X.A) (hk : k ≤ j) (hx : ∀ σ, PassesAt (L2.CX X.prog X.w) X σ (E σ)) (ho : PE X o ta) (ha : PA X (e :: es) t)
    (hst : starEach (e :: es) X.env = (false, eval e X.env) :: starEach es X.env := by rfl) (hpl : (backTo pos (starEach es X.env)).any (·.1) = false := by rfl)
    (ht : eval (.Call (.Attribute o m apos) (e :: es) [] pos) X.env = (do
      let obj ← eval o X.env
      standAt apos.atName
      let (fn, own) ← holding [obj] (getMethod obj m pl)
      callWith pos fn own (backTo pos (starEach (e :: es) X.env)) (backToKw pos (keywordEach [] X.env))) := by rfl) :
    PE X (.Call (.Attribute o m apos) (e :: es) [] pos) (tMethX C m sp E ta t) := by
  obtain ⟨f, fd, ps, hc, hm, F, b⟩ := c.ex
  exact ⟨fun pins s σ H Q I h => PySem.W.methodCall_KW (pl := pl) (thn (ho.run pins s σ H _ I h) fun u s1 ⟨y, H1, I1, ry, a, dx, fs, ey, ea, l, q⟩ => by
    subst ey
    cases (show u = Value.ref a from ry)
    exact getmeth_ok I1 ea hc hm l (PySem.W.callWith_K (first := [.ref a]) (h₀ := X.base) I.ok.mod.kin hm.kp (thn (ha.run pos pins s1 σ H1 _ I1 q) fun us s2 ⟨vs, H2, I2, r, q2⟩ => ⟨I2.kIn, run_fnS (us := .ref a :: us) (vs := .ref a :: vs) F (hr.mono hk) b (hx σ) I2 (.cons rfl r) q2⟩) hst hpl)) ht⟩
end
section
variable {P : Program} {w : World} {K : PySem.W.Frag} {mg : Str → Option Value} {base : Heap}
theorem metX {m qual : Str} {C : Addr} {st : Stmt} {f : Addr} {fd : FuncData} {N ps : List Str} {k : Nat} {sp : Sp} (c : Cls K C) (me : Meth K C m f) (F : C8.Fun K m qual st f fd) (b : Binds K fd ps []) (S : FnScope N ps (C8.fnScope st)) (len : ∀ vs H Q E, sp vs H Q E → vs.length = ps.length)
    (body : ∀ (cdv : Value) (A : Around) (outer : List Env) (s : Shared) (H : Hp) (vs : List V) (Q : VK) (E : XK), Room k (A.deeper (envOfC qual (C8.fnScope st) s.heap.objs.size f cdv)) → sp vs H Q E →
      ∃ t, PSs (cxOf (L2.CX P w) P w K mg base N qual (C8.fnScope st) f cdv A outer s H E) (C8.fnBody st) t ∧ t { nx := fun _ H' => Q .non H', rt := Q } (L2.start N vs) H) : MetX P w K mg base (k + 1) C m sp := by
  refine ⟨f, fd, ps, c, me, ?_, b⟩
  obtain ⟨oc, od, dV, kV, doc, pm, an, cdv, ct, osl, rfl, lk, hcd⟩ := F.ex
  exact fn_of lk hcd S len fun A outer s H vs Q E hr hsp => body cdv A outer s H vs Q E hr hsp
end
end Wd
/-! isinstance of a caught refusal that has a dict of its own, of a class or of a tuple of classes. -/
namespace Wd
open PySem PySem.Spec PySem.Calls PyProof.Rows PySem.W
section
variable {prog : Program} {w : World} {A : Around} {E : Value → Shared → Prop} {s : Shared} {K : Frag} {x D : Addr} {ox : Obj} {od : Option Obj}
theorem findObj_dataD {C : Addr} {name : Str} {a g : Value} (hc : (clsIn K C).isSome = true) (ha : findIn K (.ref C) name = some (some a)) (hg : specialIn K a "__get__" = some (some g)) (ht : takesIn K a = some true) : findObj K C od name = some (.bind g a) := by
  obtain ⟨cd, hc⟩ := Option.isSome_iff_exists.mp hc
  unfold findObj
  rw [hc, Option.bind_some, ha, Option.bind_some]
  simp [hg, ht]
theorem class_of_exc {Q : Option Value → Shared → Prop} (C : L2.ExcC K D) (X : K.In s.heap) (I : InstAt s.heap x ox D od) (h : Q (some (.ref D)) { s with toks := s.toks + 1 }) : wpAny (model prog w) A (getAttr? (.ref x) "__class__") Q E s := by
  have hf : findObj K D od "__class__" = some (.bind (.builtin "getset_descriptor.__get__") (.builtin "object.__class__")) := findObj_dataD (by obtain ⟨cd, hc, _⟩ := any_some C.hd; rw [hc]; rfl) C.ha C.hn C.ht
  obtain ⟨hp, g, d, t, os⟩ := s
  have L0 := I.type (M := model prog w)
  have L1 := looks_findIn (M := model prog w) X C.hg
  have L2 := looks_findIn (M := model prog w) X C.hk
  have L3 := looks_find (M := model prog w) X I hf
  have sub : Looks (model prog w) hp (isInstance (.ref x) (.type "BaseException")) true := L0.andThen (looks_subIn X C.hs)
  have hx0 : (false && onTheHeap (Value.builtin "BaseException.__getattribute__")) = false := rfl
  have hx2 : (Value.builtin "BaseException.__getattribute__" == Value.builtin "object.__getattribute__") = false := by decide +kernel
  have hx1 : (onTheHeap (Value.ref D) && Value.builtin "BaseException.__getattribute__" == Value.builtin "object.__getattribute__") = false := by rw [hx2]; rfl
  unfold getAttr? getAttrBy? getAttrBy
  refine wpAny_bind (wpAny_mkText (wpAny_bind (wpAny_attempt (wpAny_holding (wpAny_bind (L0.at (wpAny_bind (L1.at ?_))))))))
  show wpAny _ _ (if (onTheHeap (Value.ref D) && Value.builtin "BaseException.__getattribute__" == Value.builtin "object.__getattribute__") = true then _ else _) _ _ _
  rw [hx1, if_neg Bool.false_ne_true]
  unfold getAttrByItsOwn hookBefore
  refine wpAny_bind ?_
  rw [if_pos (show onTheHeap (Value.ref D) = true from rfl)]
  refine L2.at ?_
  refine wpAny_bind (wpAny_attempt (wpAny_holding ?_))
  unfold callGetattribute
  rw [hx0, if_neg Bool.false_ne_true]
  unfold boundAndCalled
  rw [PySem.F.excAttr_ValueError.ga.bind (.ref x)]
  refine wpAny_bind (wpAny_pure ?_)
  show wpAny _ _ (call (.builtin "BaseException.__getattribute__") [.ref x, .str "__class__" t]) _ _ _
  refine wpAny_call (codeAny_call_builtin PySem.F.excAttr_ValueError.ga.plain PySem.F.entry_bexc_ga ?_)
  refine @check_slot (model prog w) _ _ ⟨hp, g, d, t + 1, os⟩ "BaseException.__getattribute__" "BaseException" "__getattribute__" (.ref x) [.str "__class__" t] [] _ (by decide +kernel) (by decide +kernel) sub (PySem.F.args_bexc_ga (.ref x) (.str "__class__" t)) ?_
  unfold Builtin.«object.__getattribute__»
  refine wpAny_bind (wpAny_of_eq (a := ((Value.ref x : Value), [Value.str "__class__" t])) (by first | rfl | (simp only [slotArgs]; rfl)) ?_)
  refine wpAny_bind (wpAny_pure (wpAny_bind (L0.at (wpAny_bind (L3.at ?_)))))
  show wpAny _ _ (holding [Value.builtin "object.__class__"] (call (.builtin "getset_descriptor.__get__") [.builtin "object.__class__", .ref x, .ref D]) >>= ret) _ _ _
  refine wpAny_bind (wpAny_holding (wpAny_call (class_get (s := ⟨hp, g, d, t + 1, os⟩) (ox := ox) (od := od) X I C.hm ?_)))
  refine wpAny_pure ?_
  show wpAny _ _ (handedOut (.ref D)) _ _ _
  rw [handedOut_of (v := .ref D) rfl]
  first
    | exact wpAny_pure (wpAny_pure h)
    | exact wpAny_pure h
    | exact wpAny_pure (wpAny_bind (wpAny_pure (wpAny_pure h)))
theorem kitx_of_exc (C : L2.ExcC K D) : KitX K (.ref x) (.ref D) (fun h => InstAt h x ox D od) where
  ty := fun _ _ _ I => I.type
  it := fun _ _ X _ => by
    obtain ⟨cdD, hcD, _⟩ := any_some C.hd
    unfold clsIn at hcD
    split at hcD
    · rename_i c' d' cd' sl' ho
      intro A' Q' E' s' k q
      unfold isType loadHead
      exact wpAny_bind (wpAny_loadPart (k _ _ (X _ _ ho)) (wpAny_pure q))
    · cases hcD
  ne := fun h tp dd its n sl X htp => by
    obtain ⟨cdD, hcD, _⟩ := any_some C.hd
    refine Bool.eq_false_iff.mpr fun q => ?_
    have e : D = tp := Value.ref.inj (beq_iff_eq.mp q)
    subst e
    unfold clsIn at hcD
    split at hcD
    · rename_i c' d' cd' sl' ho
      have z := (X _ _ ho).symm.trans htp
      cases z
    · cases hcD
  ca := fun X I k => class_of_exc C X I k
end
end Wd
namespace Wd
open PySem PySem.Spec PyProof.Rows L2
/-- isinstance(e, c), e the exception that the suite holds, with a dict of its own or none -/
def rIsE3 (K : PySem.W.Frag) (cls : Value) (d : Option Addr) (a : Addr) : List V → Hp → VK → Prop := fun xs H Q => ∃ (D : Addr) (c : V) (cv : Value) (b : Bool), cls = .ref D ∧ (∀ dd, d = some dd → ∃ fs, H dd = some (.xd fs)) ∧ ExcC K D ∧ xs = [.ref a, c] ∧ (∀ u, RelV c u → u = cv) ∧ PySem.W.kitOne K (.ref D) cv = some b ∧ Q (.bl b) H
def rIsT3 (K : PySem.W.Frag) (cls : Value) (d : Option Addr) (a : Addr) : List V → Hp → VK → Prop := fun xs H Q => ∃ (D tp : Addr) (cs : List V) (us : List Value) (b : Bool), cls = .ref D ∧ (∀ dd, d = some dd → ∃ fs, H dd = some (.xd fs)) ∧ ExcC K D ∧ xs = [.ref a, .ref tp] ∧ H tp = some (.tup cs) ∧ Paired ClsV cs us ∧ PySem.W.kitAny K (.ref D) us = some b ∧ Q (.bl b) H
section
variable {X : Cx} {a : Addr} {cls : Value} {d : Option Addr} {oe : Obj} {pn : List (Addr × Obj)}
theorem inst_of_suite {pins : List (Addr × Obj)} {s : Shared} {σ : L2.St} {H : Hp} {D : Addr} (hz : Zc cls d oe) (hf : ∃ vs, oe.data = .fields vs) (I : Inv (X.suite a ((a, oe) :: pn)) pins σ H s) (e : cls = .ref D) (hd : ∀ dd, d = some dd → ∃ fs, H dd = some (.xd fs)) :
    ∃ od, PySem.W.InstAt s.heap a oe D od := by
  subst e
  obtain ⟨hget, _⟩ := I.pin (a, oe) (List.mem_append.mpr (.inl List.mem_cons_self))
  obtain ⟨vs, hv⟩ := hf
  cases d with
  | none => exact ⟨none, hget, hz.1, by unfold PySem.W.notCls; rw [hv] <;> rfl, by rw [hz.2]; exact trivial⟩
  | some dd =>
    obtain ⟨fs, h⟩ := hd dd rfl
    obtain ⟨mA, hns, _⟩ := (show ObjOk X.prog X.w H s.heap dd (.xd fs) from I.hok dd _ h)
    obtain ⟨od, ho, _⟩ := lookIn_ns hns
    exact ⟨some od, hget, hz.1, by unfold PySem.W.notCls; rw [hv] <;> rfl, by rw [hz.2]; exact ho⟩
theorem call_isE3 (hz : Zc cls d oe) (hf : ∃ vs, oe.data = .fields vs) : CallR (X.suite a ((a, oe) :: pn)) (.builtin "isinstance") (rIsE3 X.K cls d a) := by
  intro pins s σ H xs us Q I r h
  obtain ⟨D, c, cv, b, ec, hd, C, rfl, hcv, e, q⟩ := h
  obtain ⟨od, J⟩ := inst_of_suite hz hf I ec hd
  obtain ⟨u1, u2, rfl, r1, r2⟩ := vals2 r
  cases (show u1 = Value.ref a from r1)
  have e2 := hcv _ r2
  subst e2
  exact PySem.W.kia_one (kitx_of_exc C) I.kIn J e (fun z => nomatch z) fun tk => ⟨.bl b, H, I.kept (t' := tk) fun _ _ z => z, rfl, q⟩
theorem call_isT3 (hz : Zc cls d oe) (hf : ∃ vs, oe.data = .fields vs) : CallR (X.suite a ((a, oe) :: pn)) (.builtin "isinstance") (rIsT3 X.K cls d a) := by
  intro pins s σ H xs us Q I r h
  obtain ⟨D, tp, cs, ws, b, ec, hd, C, rfl, hT, k, e, q⟩ := h
  obtain ⟨od, J⟩ := inst_of_suite hz hf I ec hd
  obtain ⟨u1, u2, rfl, r1, r2⟩ := vals2 r
  cases (show u1 = Value.ref a from r1)
  cases (show u2 = Value.ref tp from r2)
  obtain ⟨_, its, rv, o, h1, h2, n, h3⟩ := (show ObjOk X.prog X.w H s.heap tp (.tup cs) from I.hok tp _ hT)
  have e3 := ClsV.all k rv
  subst e3
  obtain ⟨oc, odx, dt, sl⟩ := o
  simp only at h2 h3
  subst h2 h3
  exact PySem.W.kia_tup (kitx_of_exc C) I.kIn J h1 e (fun z => nomatch z) fun tk => ⟨.bl b, H, I.kept (t' := tk) fun _ _ z => z, rfl, q⟩
end
end Wd
/-! zip; comprehensions over lists. -/
namespace Wd
open PySem PySem.Spec PyProof.Rows L2
section
variable {σ : L2.St} {H : Hp} {Q : VK} {K : PySem.W.Frag}
theorem w_zip {a : L2.St → Hp → Prop} {b : VK} {g : TG} {tb : TS} {p r : Addr} {xs ys : List V} (hl : xs.length = ys.length) (Pv : Nat → L2.St → Hp → Prop) (h0 : Pv 0 σ H) (hq : ∀ i σ H, Pv i σ H → SqL K H p xs ∧ SqL K H r ys)
    (hs : ∀ i x y T σ H, xs[i]? = some x → ys[i]? = some y → Pv i σ H → H T = none → g (.ref T) σ (upd H T (.tup [x, y])) fun σ2 H2 => tb ⟨Pv (i + 1), b, a, Pv (i + 1)⟩ σ2 H2) (hd : ∀ σ H, Pv xs.length σ H → a σ H) :
    ∃ a' b' xs ys, [V.ref p, .ref r] = [V.ref a', .ref b'] ∧ SqL K H a' xs ∧ SqL K H b' ys ∧ ForEnd g tb a b σ (Itz K a' b') H :=
  ⟨p, r, xs, ys, rfl, (hq 0 σ H h0).1, (hq 0 σ H h0).2, RZ.for_zipL (D := ⟨a, b, fun _ _ => False, fun _ _ => False⟩) hl Pv h0 hq hs hd⟩
theorem w_lcZip {g : TG} {tt : TT} {te : TE} {vs : List Nat} {p r : Addr} {xs ys : List V} (hl : xs.length = ys.length) (hp : SqL K H p xs) (hr : SqL K H r ys) (Pv : Addr → Nat → Hp → Prop) (h0 : ∀ D, H D = none → Pv D 0 (upd H D (.lst [])))
    (hq : ∀ D i H', H D = none → Pv D i H' → SqL K H' p xs ∧ SqL K H' r ys)
    (hs : ∀ D i x y T H', H D = none → xs[i]? = some x → ys[i]? = some y → Pv D i H' → H' T = none → g (.ref T) (wipe σ vs) (upd H' T (.tup [x, y])) fun σ2 H2 => wipe σ2 vs = wipe σ vs ∧ tt σ2 H2 fun b H3 =>
      if b = true then te σ2 H3 fun y H4 => ∃ acc, H4 D = some (.lst acc) ∧ acc.length < sizeLine ∧ Pv D (i + 1) (upd H4 D (.lst (acc ++ [y]))) else Pv D (i + 1) H3) (hd : ∀ D H', H D = none → Pv D xs.length H' → Q (.ref D) H') :
    ∃ a' b' xs ys, [V.ref p, .ref r] = [V.ref a', .ref b'] ∧ SqL K H a' xs ∧ SqL K H b' ys ∧ LcEnd g tt te vs σ Q (Itz K a' b') H := by
  refine ⟨p, r, xs, ys, rfl, hp, hr, fun D hD => ?_⟩
  refine ⟨fun i m H' => m = xs.length - i ∧ i ≤ xs.length ∧ Pv D i H', ⟨xs.length, by simp, Nat.zero_le _, h0 D hD⟩, ?_⟩
  rintro i m H' ⟨rfl, hi, pv⟩
  obtain ⟨qx, qy⟩ := hq D i H' hD pv
  by_cases hlt : i < xs.length
  · have hx : xs[i]? = some xs[i] := List.getElem?_eq_getElem hlt
    have hlt2 : i < ys.length := by omega
    have hy : ys[i]? = some ys[i] := List.getElem?_eq_getElem hlt2
    refine .inr ⟨⟨xs, ys, _, _, qx, qy, hx, hy⟩, Pv D (i + 1), fun H' p' => ⟨xs.length - (i + 1), by omega, rfl, hlt, p'⟩, fun v H'' y => ?_⟩
    obtain ⟨T, x', y', rfl, hT, rfl, f1, f2⟩ := y
    exact hs D i x' y' T H' hD (f1 xs qx) (f2 ys qy) pv hT
  · have e : i = xs.length := by omega
    subst e
    exact .inl ⟨⟨xs, ys, qx, qy, Or.inl (Nat.le_refl _)⟩, hd D H' hD pv⟩
theorem w_lcList {g : TG} {tt : TT} {te : TE} {vs : List Nat} {p : Addr} {xs : List V} (hp : SqL K H p xs) (Pv : Addr → Nat → Hp → Prop) (h0 : ∀ D, H D = none → Pv D 0 (upd H D (.lst []))) (hl : ∀ D i H', H D = none → i ≤ xs.length → Pv D i H' → SqL K H' p xs)
    (hs : ∀ D i y H', H D = none → xs[i]? = some y → Pv D i H' → g y (wipe σ vs) H' fun σ2 H2 => wipe σ2 vs = wipe σ vs ∧ tt σ2 H2 fun b H3 =>
      if b = true then te σ2 H3 fun y H4 => ∃ acc, H4 D = some (.lst acc) ∧ acc.length < sizeLine ∧ Pv D (i + 1) (upd H4 D (.lst (acc ++ [y]))) else Pv D (i + 1) H3) (hd : ∀ D H', H D = none → Pv D xs.length H' → Q (.ref D) H') :
    ∃ q, V.ref p = .ref q ∧ (∃ xs, SqL K H q xs) ∧ LcEnd g tt te vs σ Q (Itl K q) H :=
  ⟨p, rfl, ⟨xs, hp⟩, fun D hD => lc_list (Pv D) (h0 D hD) (fun i H' hi q => hl D i H' hD hi q) (fun i y H' hy q => hs D i y H' hD hy q) (fun H' q => hd D H' hD q)⟩
theorem g_zip {ta : TA} {R : It → Hp → Prop} (h : ta σ H fun vs H1 => ∃ a b xs ys, vs = [.ref a, .ref b] ∧ SqL K H1 a xs ∧ SqL K H1 b ys ∧ R (Itz K a b) H1) : iZip K ta σ H R := h
end
end Wd
/-! sorted of data; self.a, self.b = .. -/
namespace Wd
open PySem PySem.Spec PyProof.Rows L2
def rSortD (K : PySem.W.Frag) : List V → Hp → VK → Prop := fun vs H Q => ∃ (a : Addr) (ps : List (V × PyData)), vs = [.ref a] ∧ SqL K H a (ps.map (·.1)) ∧ (∀ p ∈ ps, Dp K H p.1 p.2) ∧ PySem.W.AllAlike (ps.map (·.2)) ∧ PySem.W.Sortable (ps.map (·.2)) ∧ (∀ p ∈ ps, p.2.depth ≤ 10) ∧
  ∀ p, H p = none → Q (.ref p) (upd H p (.lst ((ps.mergeSort (PySem.W.dataLe false (·.2))).map (·.1))))
theorem each_vals : ∀ {ps : List (V × PyData)} {us : List Value}, Vals (ps.map (·.1)) us → PySem.W.EachIs (fun v (b : V × PyData) => RelV b.1 v) us ps
  | [], _, .nil => .nil
  | p :: ps, _, .cons r t => .cons r (each_vals t)
theorem vals_each : ∀ {ps : List (V × PyData)} {us : List Value}, PySem.W.EachIs (fun v (b : V × PyData) => RelV b.1 v) us ps → Vals (ps.map (·.1)) us
  | [], _, .nil => .nil
  | p :: ps, _, .cons r t => .cons r (vals_each t)
theorem each_reads {X : Cx} {pins : List (Addr × Obj)} {σ : L2.St} {H : Hp} {s : Shared} (I : Inv X pins σ H s) : ∀ {ps : List (V × PyData)} {us : List Value}, (∀ p ∈ ps, Dp X.K H p.1 p.2) → Vals (ps.map (·.1)) us → PySem.W.EachIs (fun v (b : V × PyData) => ∃ as, Reads s.heap v b.2 as) us ps
  | [], _, _, .nil => .nil
  | p :: ps, _, h, .cons r t => .cons (Dp.reads I p.2 p.1 _ (h p List.mem_cons_self) r) (each_reads I (fun y hy => h y (List.mem_cons_of_mem _ hy)) t)
section
variable {X : Cx}
theorem cr_sortedD (hu : X.A.units + 64 < cLine) : CallR X (.builtin "sorted") (rSortD X.K) := by
  intro pins s σ H vs us Q I r h
  obtain ⟨a, ps, rfl, hs, hd, hal, hk, hdep, q⟩ := h
  obtain ⟨its, rv, hl, hz⟩ := I.list hs
  obtain ⟨u, rfl, ru⟩ := vals1 r
  obtain rfl : u = Value.ref a := ru
  have hlen : ps.length ≤ sizeLine := by rw [List.length_map] at hz; exact hz
  refine PySem.W.sorted_data (vs := its) (bs := ps) (enc := (·.2)) (R := fun v b => RelV b.1 v) hl.isList (each_vals rv) (each_reads I hd rv) hal hk hlen (fun b hb => by have := hdep b hb; omega) fun out ho hout => ?_
  obtain ⟨n, hn⟩ := sortedAll_at s.heap its out.toArray
  have hv := vals_each hout
  refine ⟨.ref (s.heap.objs.size + 1), _, I.laid (t' := s.toks) (fun b o z => sortedAll_old z) (Nat.le_succ _) (o := .lst ((ps.mergeSort (PySem.W.dataLe false (·.2))).map (·.1))) ⟨?_, out, n, hv, hn⟩, rfl, q _ (I.hok.fresh (Nat.le_succ _))⟩
  rw [List.length_map, List.length_mergeSort]
  exact hlen
theorem pe_fldK {K : PySem.W.Frag} {e : Expr} {f : Str} {pos : Pos} {ta : TE} (hK : X.K = K) (he : PE X e ta) (hb : attributeBase e f X.env (eval e X.env) = eval e X.env) : PE X (.Attribute e f pos) (tFld K ta f) := by
  subst hK; exact pe_fld he hb
/-- an attribute as a target -/
def gAtt (K : PySem.W.Frag) (to : TE) (f : Str) : TG := fun y σ H Q => to σ H fun x H2 => ∃ a C dx fs, x = .ref a ∧ H2 a = some (.ins C dx fs) ∧ Cls K C ∧ NoAttr K C f ∧ fs.length < 1000 ∧ Q σ (upd H2 a (.ins C dx (putF f y fs)))
theorem pg_att {o : Expr} {f : Str} {pos : Pos} {to : TE} (ho : PE X o to)
    (ha : ∀ v, assign (.Attribute o f pos) X.env v = (do
      let ov ← holding [v] (eval o X.env)
      standAt pos.atName
      holding [v, ov] (setAttr ov f v)
      release [v, ov] []) := by intro _; rfl) : PG X (.Attribute o f pos) (gAtt X.K to f) := by
  refine ⟨fun pins s σ H v u Q I r h => ?_⟩
  rw [ha]
  refine wpAny_bind (wpAny_holding (thn (ho.run pins s σ H _ I h) fun ov s1 ⟨x, H1, I1, rx, a, C, dx, fs, ex, ea, c, n, l, q⟩ => ?_))
  subst ex
  obtain rfl : ov = Value.ref a := rx
  refine wpAny_bind (wpAny_standAt (wpAny_bind (wpAny_holding (setattr_ok I1 ea c n l r fun s2 I2 => ?_))))
  exact wpAny_release ⟨σ, _, I2, q⟩
end
end Wd
/-! Lambdas that stand in the heap: kept in lists, called from a comprehension; a parameter with a default. -/
namespace LamY
open PySem PySem.Spec PySem.Calls PyProof.Rows L2 LamX
/-- the object at f is a lambda, its defaults dV, its code at c' -/
def LamO (f : Addr) (q : Str) (params : Arguments) (body : Expr) (scope : Scope) (cl : List (Str × Addr)) (dV : Value) (c' : Addr) : HO :=
  .ext fun h => ∃ doc pm ctv : Value, h.get? f = some (PySem.W.kdv_obj "<lambda>" q params (.expr body) scope cl dV doc pm c' ctv)
theorem lamO_ne {f : Addr} {q : Str} {params : Arguments} {body : Expr} {scope : Scope} {cl : List (Str × Addr)} {dV : Value} {c' : Addr} (ps : Array Value) : LamO f q params body scope cl dV c' ≠ .tbl ps := fun z => by
  unfold LamO at z; cases z
section
variable {X : Cx} {pins : List (Addr × Obj)} {σ : L2.St} {H : Hp} {s : Shared}
/-- a code object more in the table -/
theorem tabs_more {T : List (Addr × Str)} {P c' : Addr} {q : Str} {ps : Array Value} {pos : Pos} (hT : Tabs T H) (hu : ∀ p ∈ T, p.1 = P → p.2 = q) (hP : H P = some (.tbl ps)) (ht : TriplesOk ps.toList)
    (ha : ∀ (p' : Pos) (cv : Value), codeAmong p' ps.toList = some cv → ∃ c, cv = .ref c ∧ H c = some (CodeO c q)) (nC : H c' = none) :
    ExtN H (upd (upd H P (.tbl (ps ++ #[rawInt pos.line, rawInt pos.col, .ref c']))) c' (CodeO c' q)) ∧ Tabs T (upd (upd H P (.tbl (ps ++ #[rawInt pos.line, rawInt pos.col, .ref c']))) c' (CodeO c' q)) := by
  generalize hpn : ps ++ #[rawInt pos.line, rawInt pos.col, .ref c'] = pn
  have X1 : ExtN H (upd (upd H P (.tbl pn)) c' (CodeO c' q)) := fun b o e n => by
    have b1 : b ≠ c' := ne_of_none e nC
    have b2 : b ≠ P := fun z => by subst z; rw [hP] at e; exact n ps (Option.some.inj e).symm
    rw [upd_ne b1, upd_ne b2]; exact e
  refine ⟨X1, fun p hp => ?_⟩
  by_cases hb : p.1 = P
  · have el : pn.toList = ps.toList ++ [rawInt pos.line, rawInt pos.col, .ref c'] := by rw [← hpn]; simp
    rw [hu p hp hb, hb]
    refine ⟨pn, ?_, ?_, fun p' cv hcv => ?_⟩
    · rw [upd_ne (ne_of_none hP nC)]; exact upd_same
    · rw [el]; exact TriplesOk_snoc _ _ _ _ ht
    · rw [el] at hcv
      rcases among_app _ ht hcv with z | z
      · exact (ha p' cv z).elim fun c0 e => ⟨c0, e.1, X1 _ _ e.2 codeO_ne⟩
      · exact ⟨c', z, upd_same⟩
  · obtain ⟨qs, a1, a2, a3⟩ := hT p hp
    refine ⟨qs, ?_, a2, fun p' cv hcv => (a3 p' cv hcv).elim fun c0 e => ⟨c0, e.1, X1 _ _ e.2 codeO_ne⟩⟩
    rw [upd_ne (ne_of_none a1 nC), upd_ne hb]; exact a1
/-- the lambda is made, and stands -/
theorem make_lam {T : List (Addr × Str)} {c P : Addr} {params : Arguments} {body : Expr} {scope : Scope} {pos : Pos} {dV : Value} {E Q : Value → Shared → Prop}
    (I : Inv X pins σ H s) (TB : TabB X.base X.mg c P) (hcode : X.env.code = .ref c) (hm : (P, X.env.qual ++ "<lambda>") ∈ T) (hu : ∀ p ∈ T, p.1 = P → p.2 = X.env.qual ++ "<lambda>") (hT : Tabs T H)
    (hfree : ∀ y ∈ scope.names, y.2 = .free → ∃ c, X.env.cells.lookup y.1 = some c)
    (h : ∀ (f c' : Addr) (H1 : Hp) (s' : Shared), Inv X pins σ (upd H1 f (LamO f (X.env.qual ++ "<lambda>") params body scope (cloFrom X.env.cells scope.names []) dV c')) s' → ExtN H H1 → Tabs T H1 → H1 f = none →
      H1 c' = some (CodeO c' (X.env.qual ++ "<lambda>")) → Q (.ref f) s') :
    wpAny (model X.prog X.w) X.A (makeTail "<lambda>" (X.env.qual ++ "<lambda>") params (.expr body) scope X.env dV .none none pos pos.line) Q E s := by
  obtain ⟨ps, hP, ht, ha⟩ := hT _ hm
  have bP : s.heap.BuiltinsAt X.mg P := TB.bm.keeps I.bk
  have gP : s.heap.get? P = some { cls := .none, data := .fields ps } := I.hok P _ hP
  have gN := I.mod.glob.keeps I.bk
  have cH := TB.code.keeps I.bk
  cases hc : codeAmong pos ps.toList with
  | some cv =>
    obtain ⟨c', e, hco⟩ := ha pos cv hc
    subst e
    refine PySem.W.kdv_makeTailHit (mg := X.mg) (P := P) (ps := ps) (closure_ok hfree) I.ok.glob gN hcode cH gP ht hc bP fun ctv doc h' tk hx hsz => ?_
    have I1 : Inv X pins σ H { s with heap := h', toks := tk } := I.kept hx
    have nf : H h'.objs.size = none := I.hok.fresh hsz
    have I2 := I1.laid (t' := tk) (o := LamO h'.objs.size (X.env.qual ++ "<lambda>") params body scope (cloFrom X.env.cells scope.names []) dV c') (fun b o e => Heap.get?_push_of_some (PySem.W.kdv_obj "<lambda>" (X.env.qual ++ "<lambda>") params (.expr body) scope (cloFrom X.env.cells scope.names []) dV doc ((X.mg "__name__").getD .none) c' ctv) e) (Nat.le_refl _)
      ⟨⟨doc, _, ctv, Heap.get?_push_size _ rfl⟩, ⟨_, Heap.get?_push_size _ rfl⟩, fun h1 h2 ⟨a, b, c, e⟩ k => ⟨a, b, c, k _ e⟩⟩
    exact h _ c' H _ I2 (ExtN.refl H) hT nf hco
  | none =>
    refine PySem.W.kdv_makeTail (mg := X.mg) (P := P) (ps := ps) (closure_ok hfree) I.ok.glob gN hcode cH gP ht hc TB.gP bP fun c' ctv doc h' tk hx hge hlt hrec htb => ?_
    obtain ⟨c2, oc, vs, t, e2, hoc, hd, hv⟩ := hrec
    cases e2
    have nC : H c' = none := I.hok.fresh hge
    have I1 := inv_table (t' := tk) (more := #[rawInt pos.line, rawInt pos.col, .ref c']) (h' := h') I hP (fun b o hb e => hx b o hb e) htb hge ⟨oc, vs, t, hoc, hd, hv⟩
    obtain ⟨x1, t1⟩ := tabs_more (pos := pos) hT hu hP ht ha nC
    have hco := upd_same (H := upd H P (.tbl (ps ++ #[rawInt pos.line, rawInt pos.col, .ref c']))) (a := c') (o := CodeO c' (X.env.qual ++ "<lambda>"))
    generalize upd (upd H P (.tbl (ps ++ #[rawInt pos.line, rawInt pos.col, .ref c']))) c' (CodeO c' (X.env.qual ++ "<lambda>")) = H1 at I1 x1 t1 hco
    have I2 := I1.laid (t' := tk) (o := LamO h'.objs.size (X.env.qual ++ "<lambda>") params body scope (cloFrom X.env.cells scope.names []) dV c') (fun b o e => Heap.get?_push_of_some (PySem.W.kdv_obj "<lambda>" (X.env.qual ++ "<lambda>") params (.expr body) scope (cloFrom X.env.cells scope.names []) dV doc ((X.mg "__name__").getD .none) c' ctv) e) (Nat.le_refl _)
      ⟨⟨doc, _, ctv, Heap.get?_push_size _ rfl⟩, ⟨_, Heap.get?_push_size _ rfl⟩, fun h1 h2 ⟨a, b, c, e⟩ k => ⟨a, b, c, k _ e⟩⟩
    exact h _ c' H1 _ I2 x1 t1 (I1.hok.fresh (Nat.le_refl _)) hco
def tLamS (T : List (Addr × Str)) (q : Str) (params : Arguments) (body : Expr) (scope : Scope) (cl : List (Str × Addr)) : TE := fun _ H Q => Tabs T H ∧ ∀ (H1 : Hp) (f c' : Addr), ExtN H H1 → Tabs T H1 → H1 f = none → H1 c' = some (CodeO c' q) →
  Q (.ref f) (upd H1 f (LamO f q params body scope cl .none c'))
/-- lambda: body, as a value -/
theorem pe_lamS {T : List (Addr × Str)} {c P : Addr} {params : Arguments} {body : Expr} {scope : Scope} {pos : Pos} (TB : TabB X.base X.mg c P) (hcode : X.env.code = .ref c) (hm : (P, X.env.qual ++ "<lambda>") ∈ T) (hu : ∀ p ∈ T, p.1 = P → p.2 = X.env.qual ++ "<lambda>")
    (hfree : ∀ y ∈ scope.names, y.2 = .free → X.env.scope.names.lookup y.1 = some .cell ∨ X.env.scope.names.lookup y.1 = some .free) (hdef : defaultsOf params X.env = ([], [])) :
    PE X (.Lambda params body scope pos) (tLamS T (X.env.qual ++ "<lambda>") params body scope (cloFrom X.env.cells scope.names [])) := by
  refine ⟨fun pins s σ H Q I h => PySem.W.kla_eval hdef ?_⟩
  rw [makeFunction_eq]
  simp only [List.zip_nil_right, List.filterMap_nil, List.isEmpty_nil, if_true, pure_bind]
  exact make_lam I TB hcode hm hu h.1 (fun y hy e => (hfree y hy e).elim (fun k => I.ok.has _ (.inl k)) fun k => I.ok.has _ (.inr k)) fun f c' H1 s' I1 x t n hc => ⟨.ref f, _, I1, rfl, h.2 H1 f c' x t n hc⟩
def tLamD (T : List (Addr × Str)) (q : Str) (params : Arguments) (body : Expr) (scope : Scope) (cl : List (Str × Addr)) (n : Int) : TE := fun _ H Q => Tabs T H ∧ ∀ (H1 : Hp) (f c' D : Addr), ExtN H H1 → Tabs T H1 → H1 f = none → H1 c' = some (CodeO c' q) →
  H D = none → H1 D = some (.tup [.int n]) → Q (.ref f) (upd H1 f (LamO f q params body scope cl (.ref D) c'))
/-- lambda x=n: body, as a value -/
theorem pe_lamD {T : List (Addr × Str)} {c P : Addr} {params : Arguments} {body : Expr} {scope : Scope} {pos p1 : Pos} {n : Int} {k1 : Nat} (TB : TabB X.base X.mg c P) (hcode : X.env.code = .ref c) (hm : (P, X.env.qual ++ "<lambda>") ∈ T) (hu : ∀ p ∈ T, p.1 = P → p.2 = X.env.qual ++ "<lambda>")
    (hfree : ∀ y ∈ scope.names, y.2 = .free → X.env.scope.names.lookup y.1 = some .cell ∨ X.env.scope.names.lookup y.1 = some .free) (hd : params.defaults = [.Constant (.int n) k1 p1]) (hk : params.kw_defaults = []) :
    PE X (.Lambda params body scope pos) (tLamD T (X.env.qual ++ "<lambda>") params body scope (cloFrom X.env.cells scope.names []) n) := by
  refine ⟨fun pins s σ H Q I h => PySem.W.kdv_lam (by rw [hd]; rfl) hk ?_⟩
  rw [hd]
  refine PySem.W.kdv_all1 (thn ((pe_int (X := X) (i := n)).run pins s σ H (fun v H1 => v = .int n ∧ H1 = H) I ⟨rfl, rfl⟩) fun u s1 ⟨v, H1, I1, r, e1, e2⟩ => PySem.W.kdv_all0 ?_)
  subst e1 e2
  rw [makeFunction_eq]
  simp only [List.zip_nil_right, List.filterMap_nil, List.isEmpty_nil, List.isEmpty_cons, Bool.false_eq_true, if_false, if_true, pure_bind]
  refine wpAny_bind (wpAny_newTextTuple ?_)
  have nD : H1 s1.heap.objs.size = none := I1.hok.fresh (Nat.le_refl _)
  have I2 := I1.laid (t' := s1.toks) (o := .tup [.int n]) (fun b o e => Heap.get?_push_of_some { cls := .type "tuple", data := .seq [u].toArray } e) (Nat.le_refl _) ⟨by show 1 ≤ sizeLine; decide, [u], .cons r .nil, ⟨_, Heap.get?_push_size _ rfl, rfl, _, rfl⟩⟩
  have x1 : ExtN H1 (upd H1 s1.heap.objs.size (.tup [.int n])) := .of fun b o e => by rw [upd_ne (ne_of_none e nD)]; exact e
  exact make_lam I2 TB hcode hm hu (h.1.ext fun b o e => by rw [upd_ne (ne_of_none e nD)]; exact e) (fun y hy e => (hfree y hy e).elim (fun k => I1.ok.has _ (.inl k)) fun k => I1.ok.has _ (.inr k))
    fun f c' H3 s' I3 x t nf hc => ⟨.ref f, _, I3, rfl, h.2 H3 f c' _ (x1.trans x) t nf hc nD (x _ _ upd_same fun _ z => nomatch z)⟩
end
/-! ### a lambda called -/
/-- its names: none of its own but parameters whose names the def knows not -/
structure LamD (N : List Str) (sc scope : Scope) (bs : List Str) : Prop where
  kind : scope.kind = .function
  co : scope.isCoroutine = false
  gen : scope.isGenerator = false
  own : ∀ y ∈ scope.names, y.2 ≠ .cell ∧ (y.2 = .local → y.1 ∉ N)
  free : ∀ y ∈ scope.names, y.2 = .free → sc.names.lookup y.1 = some .cell ∨ sc.names.lookup y.1 = some .free
  par : ∀ y ∈ bs, scope.names.lookup y = some .local
def lamDB (N : List Str) (sc scope : Scope) (bs : List Str) : Bool :=
  decide (scope.kind = .function) && !scope.isCoroutine && !scope.isGenerator && (scope.names.all fun y => !decide (y.2 = .cell) && (!decide (y.2 = .local) || !decide (y.1 ∈ N)) && (!decide (y.2 = .free) || decide (sc.names.lookup y.1 = some .cell) || decide (sc.names.lookup y.1 = some .free))) &&
    bs.all fun y => decide (scope.names.lookup y = some .local)
theorem lamD_by {N : List Str} {sc scope : Scope} {bs : List Str} (h : lamDB N sc scope bs = true) : LamD N sc scope bs := by
  unfold lamDB at h
  simp only [Bool.and_eq_true, Bool.or_eq_true, Bool.not_eq_true', decide_eq_true_eq, decide_eq_false_iff_not, List.all_eq_true] at h
  obtain ⟨⟨⟨⟨h1, h2⟩, h3⟩, h4⟩, h5⟩ := h
  refine ⟨h1, h2, h3, fun y hy => ⟨(h4 y hy).1.1, fun e => (h4 y hy).1.2.elim (fun z => absurd e z) id⟩, fun y hy e => ?_, h5⟩
  rcases (h4 y hy).2 with (z | z) | z
  · exact absurd e z
  · exact .inl z
  · exact .inr z
section
variable {X : Cx} {pins : List (Addr × Obj)} {σ : L2.St} {H HZ : Hp} {s s1 : Shared}
theorem LamD.has {N : List Str} {scope : Scope} {bs : List Str} (L : LamD N X.env.scope scope bs) (ok : X.Ok) : ∀ y ∈ scope.names, y.2 = .free → ∃ c, X.env.cells.lookup y.1 = some c := fun y hy e =>
  (L.free y hy e).elim (fun k => ok.has _ (.inl k)) fun k => ok.has _ (.inr k)
/-- the lambda's body begins: what it captured stands as the def's slots tell -/
theorem body_start {A : Around} {outer : List Env} {E : XK} {scope : Scope} {f c' : Addr} {h₁ : Heap} {tk : Nat} {bs : List Str} {m : Str → Option Value} (I : Inv X pins σ H s) (L : LamD X.N X.env.scope scope bs) (e0 : Env0 X.prog X.w X.K X.mg X.base A outer s1 HZ) (hd : A.handled = none)
    (un : Un (frs X.stack) [] H HZ s.heap s1.heap) (hns : h₁.Ns s1.heap.objs.size m) (kp : ∀ b o, s1.heap.get? b = some o → h₁.get? b = some o) : Inv (lamCx X A outer s1 HZ E scope f c') [] σ HZ { s1 with heap := h₁, toks := tk } := by
  have hfree := L.has I.ok
  have back : ∀ {y c}, (cloFrom X.env.cells scope.names []).lookup y = some c → X.env.cells.lookup y = some c := fun {y c} e => by
    rcases cloFrom_mem (PySem.mem_of_lookup e) with hm | ⟨h1, h2⟩
    · exact nomatch hm
    · obtain ⟨c1, hc⟩ := hfree _ h1 rfl
      replace hc : X.env.cells.lookup y = some c1 := hc
      have e2 : c = c1 := by rw [h2, hc] <;> rfl
      rw [e2, hc]
  have there : ∀ {y}, scope.names.lookup y = some .free → ∃ c, (cloFrom X.env.cells scope.names []).lookup y = some c := fun {y} hl =>
    mem_lookup (cloFrom_has (cells := X.env.cells) (acc := []) (show (y, NameKind.free) ∈ scope.names from PySem.mem_of_lookup hl))
  have cellK : ∀ {c : Addr} {v : Option Value}, H c = none → s.heap.IsCell c v → h₁.IsCell c v := fun {c v} n ⟨o, ho, hd⟩ => by
    obtain ⟨sl, q⟩ := un.any ho n (by simp)
    exact ⟨_, kp _ _ q, hd⟩
  have noex : ∀ b : Addr, b ∈ (lamCx X A outer s1 HZ E scope f c').ex → False := fun b z => by
    have z : b ∈ ([] : List Addr) := z
    simp at z
  have okX : (lamCx X A outer s1 HZ E scope f c').Ok := by
    refine ⟨e0.mod, L.kind, rfl, rfl, Nat.le_refl _, fun y z c e1 e2 => I.ok.inj y z c (back e1) (back e2), fun y hy => ?_, fun y c z _ => ?_, fun _ => hd, Around.frames_deeper e0.frames, .inr ⟨rfl, rfl⟩, fun b z => (noex b z).elim, e0.bs, e0.bsz, fun b _ _ z => noex b z,
      fun b z => (noex b z).elim, e0.funs, e0.frf⟩
    · rcases (show scope.names.lookup y = some .cell ∨ scope.names.lookup y = some .free from hy) with hy | hy
      · exact absurd rfl (L.own _ (PySem.mem_of_lookup hy)).1
      · exact there hy
    · exact nomatch (show false = true from z)
  refine ⟨okX, rfl, e0.bare, Un.kept kp, ⟨_, hns, fun i y v e1 e2 e3 => ?_⟩, fun y c e => ?_, e0.hok.fresh (Nat.le_refl _), fun y c e => ?_, fun q hq => ?_, e0.hok.kept kp, I.len⟩
  · replace e1 : X.N[i]? = some y := e1
    rcases (show Vis scope y from e3) with k | k | k
    · exact absurd (List.mem_of_getElem? e1) ((L.own _ (PySem.mem_of_lookup k)).2 rfl)
    · exact absurd rfl (L.own _ (PySem.mem_of_lookup k)).1
    · have fr := L.free _ (PySem.mem_of_lookup k) rfl
      obtain ⟨m2, hn, hl⟩ := I.loc
      obtain ⟨w', r, q⟩ := hl i y v e1 e2 (fr.elim (fun k => .inr (.inl k)) fun k => .inr (.inr k))
      obtain ⟨c2, h2⟩ := there k
      have c1 := back h2
      refine ⟨w', r, .inr ⟨.inr k, c2, h2, ?_⟩⟩
      rcases q with ⟨k', _⟩ | ⟨_, c3, e', z⟩
      · replace k' : X.env.scope.names.lookup y = some .local := k'
        rcases fr with k2 | k2
        · cases k'.symm.trans k2
        · cases k'.symm.trans k2
      · cases c1.symm.trans e'
        exact cellK (I.freeC y _ c1) z
  · exact (I.cell y c (back e)).elim fun v z => ⟨v, cellK (I.freeC y c (back e)) z⟩
  · obtain ⟨v, o, ho, hd⟩ := I.cell y c (back e)
    exact un.free c o ho (I.freeC y c (back e)) (by simp)
  · replace hq : q ∈ ([] : List (Addr × Obj)) ++ [] := hq
    simp at hq
/-- a(), in the def that was handed the lambda at f -/
theorem act_lam {CXg : CXT} {Eg : XK} {Ng : List Str} {qg a : Str} {sg scope : Scope} {g f c' : Addr} {cdg dV : Value} {params : Arguments} {body : Expr} {k i : Nat} {pn : List (Addr × Obj)} {xe : Value → Shared → Prop} {W : WX} {E : XK} {tb : TE} {p1 p2 : Pos} {bs : List Str} {Dfl : Hp → Prop}
    (I : Inv X pins σ H s) (L : LamD X.N X.env.scope scope bs)
    (hbind : ∀ (s' : Shared) (H' : Hp) (doc pm cv ctv : Value), HOk X.prog X.w H' s'.heap → Dfl H' → ∃ binds : List (Str × Value), (∀ y ∈ binds, y.1 ∈ bs) ∧ BindsTo s' (PySem.W.kdv_fn "<lambda>" (X.env.qual ++ "<lambda>") params (.expr body) scope (cloFrom X.env.cells scope.names []) dV doc pm cv ctv) ⟨[], []⟩ binds)
    (tk : Takes ((cxOf CXg X.prog X.w X.K X.mg X.base Ng qg sg g cdg X.A X.stack s H Eg).tr pn xe) W) (hW : ∀ cls d σ' H', E cls d H' → W cls d σ' H') (hr : Room (k + 1) (X.A.deeper (envOfC qg sg s.heap.objs.size g cdg)))
    (hbody : ∀ (A : Around) (outer : List Env) (s : Shared) (H : Hp), Room k (A.deeper (lamEnv X scope s.heap.objs.size f c')) → PE (lamCx X A outer s H E scope f c') body tb)
    (hN : Ng[i]? = some a) (hv : Vis sg a) (hd : (a == ("__debug__" : Str)) = false) (hcd : (a == ("__classdict__" : Str)) = false) :
    PE ((cxOf CXg X.prog X.w X.K X.mg X.base Ng qg sg g cdg X.A X.stack s H Eg).tr pn xe) (.Call (.Name a p1) [] [] p2)
      (fun σZ HZ Q => σZ[i]? = some (some (.ref f)) ∧ HZ c' = some (CodeO c' (X.env.qual ++ "<lambda>")) ∧ HZ f = some (LamO f (X.env.qual ++ "<lambda>") params body scope (cloFrom X.env.cells scope.names []) dV c') ∧ Dfl HZ ∧ tb σ HZ Q) := by
  refine ⟨fun pinsZ sZ σZ HZ Q IZ ⟨hs, hc, hf, hD, ht⟩ => ?_⟩
  have rn := (pe_var (pos := p1) (i := i) hN hv hd hcd).run pinsZ sZ σZ HZ (fun v H1 => v = .ref f ∧ H1 = HZ) IZ ⟨.ref f, hs, rfl, rfl⟩
  refine wpAny_Call_Name_kw (thn rn fun u s1 ⟨v, H1, I1, r1, e1, e2⟩ => ?_)
  subst e1 e2
  obtain rfl : u = Value.ref f := r1
  obtain ⟨⟨doc, pm, ctv, of1⟩, _, _⟩ := I1.hok f _ hf
  obtain ⟨⟨oc, vs, t, hoc, hdc, hvc⟩, _, _⟩ := I1.hok c' _ hc
  have un : Un (frs X.stack) [] H H1 s.heap s1.heap := I1.base
  have rc : codeAny (model X.prog X.w) (X.A.deeper (envOfC qg sg s.heap.objs.size g cdg)) (.call (.ref f) ⟨[], []⟩) (CR (L2.CX X.prog X.w) (envOfC qg sg s.heap.objs.size g cdg :: X.stack) X.prog X.w H1 s1 Q E) s1 := by
    obtain ⟨binds, hbs, hbt⟩ := hbind s1 H1 doc pm (.ref c') ctv I1.hok hD
    refine PySem.W.kla_callFunE hr.depth of1 rfl L.co L.gen rfl ⟨c', oc, vs, t, rfl, hoc, hdc, hvc⟩ (hbt _ _ _ _ ?_)
    refine wpAny_newFunctionEnv (fun y hy => (L.own y hy).1) (fun y hy => L.par _ (hbs y hy)) (fun h₁ hns hsb => ⟨I1.nolimit.fresh _ hsb, ?_⟩) L.kind
    have kp : ∀ b o, s1.heap.get? b = some o → h₁.get? b = some o := fun b o e => hsb.extBut b o (Nat.ne_of_lt (Heap.lt_size e)) (Heap.get?_push_of_some _ e)
    have J : Inv (lamCx X (X.A.deeper (envOfC qg sg s.heap.objs.size g cdg)) (envOfC qg sg s.heap.objs.size g cdg :: X.stack) s1 H1 E scope f c') [] σ H1 { s1 with heap := h₁, toks := s1.toks + binds.length } := body_start I L I1.env0 hr.hd un hns kp
    refine PySem.W.kla_codeExpr (wpAny_mono ((hbody _ _ s1 H1 (hr.deeper _)).run [] _ _ H1 Q J ht) (fun v s' hq => ?_) fun e s' hq => hq)
    exact hq.elim fun w' ⟨H', J', rv, q⟩ => ⟨w', H', J'.os, J'.bare, J'.base, J'.hok, rv, q⟩
  have hx := passes_call tk hW
  refine PySem.W.callWith_F0 ⟨_, _, _, _, of1⟩ (wpAny_call (codeAny_mono rc fun r s' hq => ?_))
  rcases r with e | fl
  · exact hx pinsZ σZ H1 s1 e s' I1 hq
  · cases fl with
    | ret u => exact I1.after hq
    | next => exact hq.elim
    | brk => exact hq.elim
    | cont => exact hq.elim
/-- a def called with a lambda that stands -/
theorem run_kind {TT : (XK → Hp → VK → Prop) → Hp → VK → Prop} {x a : Str} {g f c' : Addr} {k : Nat} {pg : Arguments} {bg : List Stmt} {sg scope : Scope} {dV' kV doc pm cdv ct oc dV : Value} {an od : Option Addr} {osl : Array (Option Value)} {Ng : List Str} {bs : List Str} {Dfl : Hp → Prop}
    {params : Arguments} {body : Expr} {t : XK → TE} {Q : VK} (lk : X.K.lookup g = some ⟨oc, od, .func (PySem.W.fnOf x x pg bg sg dV' kV doc pm an cdv ct), osl⟩) (hcg : PySem.W.codeIn X.K cdv x = true) (hb : L2.Binds X.K (PySem.W.fnOf x x pg bg sg dV' kV doc pm an cdv ct) [a] []) (Sg : FnScope Ng [a] sg)
    (hNg : Ng[0]? = some a) (hva : Vis sg a) (hG : GivesTo X Ng x sg g cdv bg a (X.env.qual ++ "<lambda>") TT) (hr : Room (k + 2) X.A) (L : LamD X.N X.env.scope scope bs)
    (hbind : ∀ (s' : Shared) (H' : Hp) (doc pm cv ctv : Value), HOk X.prog X.w H' s'.heap → Dfl H' → ∃ binds : List (Str × Value), (∀ y ∈ binds, y.1 ∈ bs) ∧ BindsTo s' (PySem.W.kdv_fn "<lambda>" (X.env.qual ++ "<lambda>") params (.expr body) scope (cloFrom X.env.cells scope.names []) dV doc pm cv ctv) ⟨[], []⟩ binds)
    (hbody : ∀ (A : Around) (outer : List Env) (s : Shared) (H : Hp) (E : XK) (f c' : Addr), Room k (A.deeper (lamEnv X scope s.heap.objs.size f c')) → PE (lamCx X A outer s H E scope f c') body (t E))
    (hd : (a == ("__debug__" : Str)) = false) (hcd : (a == ("__classdict__" : Str)) = false) (I : Inv X pins σ H s) (hco : H c' = some (CodeO c' (X.env.qual ++ "<lambda>")))
    (h : TT (fun E H' Q' => H' f = some (LamO f (X.env.qual ++ "<lambda>") params body scope (cloFrom X.env.cells scope.names []) dV c') ∧ Dfl H' ∧ t E σ H' Q') H Q) :
    codeAny (model X.prog X.w) X.A (.call (.ref g) ⟨[.ref f], []⟩) (CR C8.CX0 X.stack X.prog X.w H s Q C8.E0) s := by
  refine run_ofS (N := Ng) (ps := [a]) (us := [.ref f]) (vs := [.ref f]) lk hcg Sg hr I.env0 (hb s [.ref f] I.kIn rfl) (.cons rfl .nil) rfl fun hr' => ?_
  have gv := hG f c' s H Q _ (fun W pn xe E p1 p2 tk hW => act_lam (i := 0) I L hbind tk hW hr' (fun A outer s H hr2 => hbody A outer s H E f c' hr2) hNg hva hd hcd) hco h
  exact gv.elim fun t' ht => ⟨t', ht.1.nox, ht.2⟩
end
end LamY
/-! Calls of a def with lambdas that stand; a comprehension whose tests see what the def's slots tell. -/
namespace LamY
open PySem PySem.Spec PySem.Calls PyProof.Rows L2 LamX
section
variable {X : Cx} {TT : (XK → Hp → VK → Prop) → Hp → VK → Prop} {x a : Str} {g : Addr} {k : Nat} {pg : Arguments} {bg : List Stmt} {sg : Scope} {dV' kV doc pm cdv ct oc : Value} {an od : Option Addr} {osl : Array (Option Value)} {Ng : List Str} {e : Expr} {ta : TA} {p pos : Pos}
/-- x(e), e a lambda that stands -/
theorem pe_kindV {scope : Scope} {params : Arguments} {body : Expr} {t : XK → TE} {bs : List Str} {Dfl : Addr → Hp → Prop} {dVof : Addr → Value} (hg : Gl X x) (hm : X.mg x = some (.ref g)) (hk : PySem.W.keepIn X.K (.ref g) = true)
    (lk : X.K.lookup g = some ⟨oc, od, .func (PySem.W.fnOf x x pg bg sg dV' kV doc pm an cdv ct), osl⟩) (hcg : PySem.W.codeIn X.K cdv x = true) (hb : L2.Binds X.K (PySem.W.fnOf x x pg bg sg dV' kV doc pm an cdv ct) [a] []) (Sg : FnScope Ng [a] sg)
    (hNg : Ng[0]? = some a) (hva : Vis sg a) (hG : GivesTo X Ng x sg g cdv bg a (X.env.qual ++ "<lambda>") TT) (hr : Room (k + 2) X.A) (L : LamD X.N X.env.scope scope bs)
    (hbind : ∀ (D : Addr) (s' : Shared) (H' : Hp) (doc pm cv ctv : Value), HOk X.prog X.w H' s'.heap → Dfl D H' → ∃ binds : List (Str × Value), (∀ y ∈ binds, y.1 ∈ bs) ∧ BindsTo s' (PySem.W.kdv_fn "<lambda>" (X.env.qual ++ "<lambda>") params (.expr body) scope (cloFrom X.env.cells scope.names []) (dVof D) doc pm cv ctv) ⟨[], []⟩ binds)
    (hbody : ∀ (A : Around) (outer : List Env) (s : Shared) (H : Hp) (E : XK) (f c' : Addr), Room k (A.deeper (lamEnv X scope s.heap.objs.size f c')) → PE (lamCx X A outer s H E scope f c') body (t E)) (ha : PA X [e] ta)
    (hdb : (x == ("__debug__" : Str)) = false := by decide) (hd : (a == ("__debug__" : Str)) = false := by decide) (hcd : (a == ("__classdict__" : Str)) = false := by decide)
    (he : starEach [e] X.env = (false, eval e X.env) :: starEach [] X.env := by rfl) (hpl : (backTo pos (starEach [] X.env)).any (·.1) = false := by rfl) :
    PE X (.Call (.Name x p) [e] [] pos) (fun σ H Q => ta σ H fun vs H1 => ∃ f c' D : Addr, vs = [.ref f] ∧ H1 c' = some (CodeO c' (X.env.qual ++ "<lambda>")) ∧
      TT (fun E H' Q' => H' f = some (LamO f (X.env.qual ++ "<lambda>") params body scope (cloFrom X.env.cells scope.names []) (dVof D) c') ∧ Dfl D H' ∧ t E σ H' Q') H1 Q) := by
  refine ⟨fun pins s σ H Q I h => wpAny_Call_Name_kw (ld_glob I hg hm ?_ hdb)⟩
  refine PySem.W.callWith_K (h₀ := X.base) I.ok.mod.kin hk (thn (ha.run pos pins _ σ H _ I h) fun us s1 ⟨vs, H1, I1, r, f, c', D, ev, hc, q⟩ => ⟨I1.kIn, ?_⟩) he hpl
  subst ev
  cases r with
  | @cons _ u _ ur ru rr =>
    cases rr
    obtain rfl : u = Value.ref f := ru
    have rc := run_kind (Q := Q) lk hcg hb Sg hNg hva hG hr L (hbind D) hbody hd hcd I1 hc q
    refine wpAny_call (codeAny_mono rc fun r s2 hq => ?_)
    rcases r with e | fl
    · exact (show False from hq).elim
    · cases fl with
      | ret u => exact I1.after hq
      | next => exact hq.elim
      | brk => exact hq.elim
      | cont => exact hq.elim
/-- x(lambda ..), made as one that stands -/
theorem pe_kindL {lpos : Pos} {scope : Scope} {params : Arguments} {body : Expr} {t : XK → TE} {bs : List Str} {Dfl : Addr → Hp → Prop} {dVof : Addr → Value} (hg : Gl X x) (hm : X.mg x = some (.ref g)) (hk : PySem.W.keepIn X.K (.ref g) = true)
    (lk : X.K.lookup g = some ⟨oc, od, .func (PySem.W.fnOf x x pg bg sg dV' kV doc pm an cdv ct), osl⟩) (hcg : PySem.W.codeIn X.K cdv x = true) (hb : L2.Binds X.K (PySem.W.fnOf x x pg bg sg dV' kV doc pm an cdv ct) [a] []) (Sg : FnScope Ng [a] sg)
    (hNg : Ng[0]? = some a) (hva : Vis sg a) (hG : GivesTo X Ng x sg g cdv bg a (X.env.qual ++ "<lambda>") TT) (hr : Room (k + 2) X.A) (L : LamD X.N X.env.scope scope bs)
    (hbind : ∀ (D : Addr) (s' : Shared) (H' : Hp) (doc pm cv ctv : Value), HOk X.prog X.w H' s'.heap → Dfl D H' → ∃ binds : List (Str × Value), (∀ y ∈ binds, y.1 ∈ bs) ∧ BindsTo s' (PySem.W.kdv_fn "<lambda>" (X.env.qual ++ "<lambda>") params (.expr body) scope (cloFrom X.env.cells scope.names []) (dVof D) doc pm cv ctv) ⟨[], []⟩ binds)
    (hbody : ∀ (A : Around) (outer : List Env) (s : Shared) (H : Hp) (E : XK) (f c' : Addr), Room k (A.deeper (lamEnv X scope s.heap.objs.size f c')) → PE (lamCx X A outer s H E scope f c') body (t E)) (ha : PA X [.Lambda params body scope lpos] ta)
    (hdb : (x == ("__debug__" : Str)) = false := by decide) (hd : (a == ("__debug__" : Str)) = false := by decide) (hcd : (a == ("__classdict__" : Str)) = false := by decide)
    (he : starEach [.Lambda params body scope lpos] X.env = (false, eval (.Lambda params body scope lpos) X.env) :: starEach [] X.env := by rfl) (hpl : (backTo pos (starEach [] X.env)).any (·.1) = false := by rfl) :
    PE X (.Call (.Name x p) [.Lambda params body scope lpos] [] pos) (fun σ H Q => ta σ H fun vs H1 => ∃ f c' D : Addr, vs = [.ref f] ∧ H1 c' = some (CodeO c' (X.env.qual ++ "<lambda>")) ∧
      TT (fun E H' Q' => H' f = some (LamO f (X.env.qual ++ "<lambda>") params body scope (cloFrom X.env.cells scope.names []) (dVof D) c') ∧ Dfl D H' ∧ t E σ H' Q') H1 Q) :=
  pe_kindV hg hm hk lk hcg hb Sg hNg hva hG hr L hbind hbody ha hdb hd hcd he hpl
theorem g_lamS {T : List (Addr × Str)} {q : Str} {params : Arguments} {body : Expr} {scope : Scope} {cl : List (Str × Addr)} {σ : L2.St} {H : Hp} {Q : VK} (t : Tabs T H)
    (h : ∀ (M : Hp) (f c' : Addr), ExtN H M → Tabs T M → (∀ b o, H b = some o → (∀ ps, o ≠ .tbl ps) → b ≠ f) → M f = some (LamO f q params body scope cl .none c') → M c' = some (CodeO c' q) → Q (.ref f) M) : tLamS T q params body scope cl σ H Q := by
  refine ⟨t, fun H1 f c' x t1 nf hc => ?_⟩
  have k : ∀ b o, H1 b = some o → upd H1 f (LamO f q params body scope cl .none c') b = some o := fun b o e => by rw [upd_ne (ne_of_none e nf)]; exact e
  exact h _ f c' (x.trans (.of k)) (t1.ext k) (fun b o e n => ne_of_none (x b o e n) nf) upd_same (k _ _ hc)
theorem g_lamD {T : List (Addr × Str)} {q : Str} {params : Arguments} {body : Expr} {scope : Scope} {cl : List (Str × Addr)} {n : Int} {σ : L2.St} {H : Hp} {Q : VK} (t : Tabs T H)
    (h : ∀ (M : Hp) (f c' D : Addr), ExtN H M → Tabs T M → (∀ b o, H b = some o → (∀ ps, o ≠ .tbl ps) → b ≠ f) → M f = some (LamO f q params body scope cl (.ref D) c') → M c' = some (CodeO c' q) → M D = some (.tup [.int n]) → Q (.ref f) M) : tLamD T q params body scope cl n σ H Q := by
  refine ⟨t, fun H1 f c' D x t1 nf hc nD hD => ?_⟩
  have k : ∀ b o, H1 b = some o → upd H1 f (LamO f q params body scope cl (.ref D) c') b = some o := fun b o e => by rw [upd_ne (ne_of_none e nf)]; exact e
  exact h _ f c' D (x.trans (.of k)) (t1.ext k) (fun b o e n => ne_of_none (x b o e n) nf) upd_same (k _ _ hc) (k _ _ hD)
/-- one parameter, its default a number -/
theorem bind_one {D : Addr} {n : Int} {s' : Shared} {H' : Hp} {fd : FuncData} {y : Str} {kk : Option (Array Value) → Sem (List (Str × Value))} (ok : HOk X.prog X.w H' s'.heap) (hD : H' D = some (.tup [.int n])) (hd : fd.defaults = .ref D) (h₁ : bindArgs fd ⟨[], []⟩ = seqItems? fd.defaults >>= kk)
    (h₂ : ∀ u : Value, kk (some #[u]) = pure [(y, u)]) : ∃ binds : List (Str × Value), (∀ z ∈ binds, z.1 ∈ [y]) ∧ BindsTo s' fd ⟨[], []⟩ binds := by
  obtain ⟨_, its, r, ⟨o, ho, _, m, hdat⟩⟩ := ok D _ hD
  cases r with
  | @cons _ u _ ur ru rr =>
    cases rr
    refine ⟨[(y, u)], fun z hz => ?_, .of_defaults hd ho hdat h₁ (h₂ u)⟩
    rw [List.mem_singleton.mp hz]
    exact List.mem_singleton.mpr rfl
theorem all3 {α : Type} {Pr : α → Prop} {a b c : α} (h1 : Pr a) (h2 : Pr b) (h3 : Pr c) : ∀ x ∈ [a, b, c], Pr x := fun x hx => by
  simp only [List.mem_cons, List.not_mem_nil, or_false] at hx
  rcases hx with rfl | rfl | rfl
  · exact h1
  · exact h2
  · exact h3
/-- what is asked of a lambda without defaults -/
structure LamOk (X : Cx) (k : Nat) (al : Arguments × Expr × Scope × (XK → TE)) : Prop where
  L : LamD X.N X.env.scope al.2.2.1 []
  bind : ∀ (q : Str) (cl : List (Str × Addr)) (doc pm cv ctv : Value), bindArgs (PySem.W.kdv_fn "<lambda>" q al.1 (.expr al.2.1) al.2.2.1 cl .none doc pm cv ctv) ⟨[], []⟩ = pure []
  body : ∀ (A : Around) (outer : List Env) (s : Shared) (H : Hp) (E : XK) (f c' : Addr), Room k (A.deeper (lamEnv X al.2.2.1 s.heap.objs.size f c')) → PE (lamCx X A outer s H E al.2.2.1 f c') al.2.1 (al.2.2.2 E)
/-- f is one of these lambdas -/
def IsLam (X : Cx) (al : Arguments × Expr × Scope × (XK → TE)) (f c' : Addr) : HO := LamO f (X.env.qual ++ "<lambda>") al.1 al.2.1 al.2.2.1 (cloFrom X.env.cells al.2.2.1.names []) .none c'
/-- in a block of the def X: x(e), e one of some lambdas that stand -/
theorem pe_kindB {scope : Scope} {ce : Env} {s0 : Shared} {H0 : Hp} {fp : List Addr} {pins0 : List (Addr × Obj)} {σ0 : L2.St} {alts : List (Arguments × Expr × Scope × (XK → TE))} (I0 : Inv X pins0 σ0 H0 s0) (hfp : ∀ b ∈ fp, FpOk X pins0 H0 b)
    (hal : ∀ al ∈ alts, LamOk X k al) (hg : Gl (X.blk s0 H0 scope ce fp) x) (hm : X.mg x = some (.ref g)) (hk : PySem.W.keepIn X.K (.ref g) = true)
    (lk : X.K.lookup g = some ⟨oc, od, .func (PySem.W.fnOf x x pg bg sg dV' kV doc pm an cdv ct), osl⟩) (hcg : PySem.W.codeIn X.K cdv x = true) (hb : L2.Binds X.K (PySem.W.fnOf x x pg bg sg dV' kV doc pm an cdv ct) [a] []) (Sg : FnScope Ng [a] sg)
    (hNg : Ng[0]? = some a) (hva : Vis sg a) (hG : GivesTo X Ng x sg g cdv bg a (X.env.qual ++ "<lambda>") TT) (hr : Room (k + 2) X.A) (ha : PA (X.blk s0 H0 scope ce fp) [e] ta)
    (hdb : (x == ("__debug__" : Str)) = false := by decide) (hd : (a == ("__debug__" : Str)) = false := by decide) (hcd : (a == ("__classdict__" : Str)) = false := by decide)
    (he : starEach [e] ce = (false, eval e ce) :: starEach [] ce := by rfl) (hpl : (backTo pos (starEach [] ce)).any (·.1) = false := by rfl) :
    PE (X.blk s0 H0 scope ce fp) (.Call (.Name x p) [e] [] pos) (fun σ H Q => ta σ H fun vs H1 => ∃ al ∈ alts, ∃ f c' : Addr, vs = [.ref f] ∧ H1 c' = some (CodeO c' (X.env.qual ++ "<lambda>")) ∧ TT (fun E H' Q' => H' f = some (IsLam X al f c') ∧ al.2.2.2 E σ0 H' Q') H1 Q) := by
  refine ⟨fun pins s σ H Q I h => wpAny_Call_Name_kw (ld_glob I hg hm ?_ hdb)⟩
  refine PySem.W.callWith_K (h₀ := X.base) I.ok.mod.kin hk (thn (ha.run pos pins _ σ H _ I h) fun us s1 ⟨vs, H1, I1, r, al, hm2, f, c', ev, hc, q⟩ => ⟨I1.kIn, ?_⟩) he hpl
  subst ev
  cases r with
  | @cons _ u _ ur ru rr =>
    cases rr
    obtain rfl : u = Value.ref f := ru
    have J : Inv X pins0 σ0 H1 s1 := I0.call' (ch := fp) I1.os I1.base I1.hok I1.bare fun b hb => ⟨(hfp b hb).2.2.2.1, (hfp b hb).2.1, (hfp b hb).2.2.2.2.1, (hfp b hb).2.2.2.2.2⟩
    have A := hal al hm2
    have rc := run_kind (Q := Q) (Dfl := fun _ => True) (bs := []) (dV := .none) lk hcg hb Sg hNg hva hG hr A.L (fun s' H' doc pm cv ctv _ _ => ⟨[], ⟨fun (y : Str × Value) (hy : y ∈ []) => (List.not_mem_nil hy).elim, BindsTo.of_eq (A.bind _ _ _ _ _ _)⟩⟩) A.body hd hcd J hc (by
      have e2 : (fun E H' Q' => H' f = some (LamO f (X.env.qual ++ "<lambda>") al.1 al.2.1 al.2.2.1 (cloFrom X.env.cells al.2.2.1.names []) .none c') ∧ (fun _ => True) H' ∧ al.2.2.2 E σ0 H' Q') = (fun (E : XK) (H' : Hp) (Q' : VK) => H' f = some (IsLam X al f c') ∧ al.2.2.2 E σ0 H' Q') := by
        funext E H' Q'
        unfold IsLam
        simp
      rw [e2]; exact q)
    refine wpAny_call (codeAny_mono rc fun r s2 hq => ?_)
    rcases r with e | fl
    · exact (show False from hq).elim
    · cases fl with
      | ret u => exact I1.after hq
      | next => exact hq.elim
      | brk => exact hq.elim
      | cont => exact hq.elim
end
section
variable {X : Cx}
/-- [elt for tg in iter if tests], the tests read in the block of a def whose slots are known -/
theorem pe_lcI {elt tg iter : Expr} {ifs : List Expr} {scope : Scope} {own : List (Str × Nat)} {pos : Pos} {wi : TI} {g : TG} {tt : L2.St → TT} {te : TE} (hc : X.calm = true) (hN : X.N.Nodup) (hi : PI X tg iter wi) (ok : BlkOk X.N X.env.scope scope own)
    (hg : ∀ (s : Shared) (H : Hp) (C : Addr) (cl : List (Str × Addr)) (fp : List Addr), PG (X.blk s H scope (compEnvC scope cl C X.env) fp) tg g)
    (ht : ∀ (pins : List (Addr × Obj)) (σ : L2.St) (s : Shared) (H : Hp) (C : Addr) (cl : List (Str × Addr)) (fp : List Addr), Inv X pins σ H s → (∀ b ∈ fp, FpOk X pins H b) → PTs (X.blk s H scope (compEnvC scope cl C X.env) fp) ifs (tt σ))
    (he : ∀ (s : Shared) (H : Hp) (C : Addr) (cl : List (Str × Addr)) (fp : List Addr), PE (X.blk s H scope (compEnvC scope cl C X.env) fp) elt te) (hs : ∀ x, foldedSetIterable iter X.env x = pure x := by intro _; rfl) :
    PE X (.ListComp elt [⟨tg, iter, ifs, 0⟩] scope pos) (fun σ => tLc wi g (tt σ) te (own.map (·.2)) σ) := by
  refine ⟨fun pins s σ H Q I h => ?_⟩
  rw [eval_ListComp]
  have caps : ∀ y ∈ scope.names, y.2 = .free → ∃ c, X.env.cells.lookup y.1 = some c := fun y hy e =>
    (ok.free y hy e).elim (fun k => I.ok.has _ (.inl k)) fun k => I.ok.has _ (.inr k)
  refine wpAny_comprehension_free (use := none) rfl hs (closure_ok caps) ok.kind (fun y hy e => (ok.uniq y hy).trans (congrArg some e)) (thn (hi.run pins s σ H _ I h) fun xv s1 hx => thn hx fun itv s2 hy => ?_)
  obtain ⟨it, fp, tn, J, H2, e, I2, T, st2, f2, q⟩ := hy
  subst e
  refine wpAny_newObj_type (newEnv_comp ?_) (Nat.zero_le _)
  obtain ⟨W, ⟨m0, w0⟩, turn⟩ := q s2.heap.objs.size (I2.hok.fresh (Nat.le_refl _))
  -- the new list stands
  obtain ⟨s3, e3, I3⟩ : ∃ s3 : Shared, { s2 with heap := s2.heap.push { cls := .type "list", data := .seq ([] : List Value).toArray } } = s3 ∧ Inv X pins σ (upd H2 s2.heap.objs.size (.lst [])) s3 :=
    ⟨_, rfl, I2.laid (t' := s2.toks) (fun b o z => Heap.get?_push_of_some _ z) (Nat.le_refl _) ⟨Nat.zero_le _, [], 0, .nil, Heap.get?_push_size _ rfl⟩⟩
  have k23 : ∀ b o, s2.heap.get? b = some o → s3.heap.get? b = some o := fun b o z => by rw [← e3]; exact Heap.get?_push_of_some _ z
  have z23 : s3.heap.objs.size = s2.heap.objs.size + 1 := by rw [← e3]; exact Heap.size_push ..
  have f3 : ∀ b ∈ fp, FpOk X pins (upd H2 s2.heap.objs.size (.lst [])) b ∧ b < s3.heap.objs.size := fun b hb => by
    obtain ⟨o, z, _⟩ := T.obj _ _ st2 b hb
    have lt := Heap.lt_size z
    exact ⟨⟨by rw [upd_ne (Nat.ne_of_lt lt)]; exact (f2 b hb).1, (f2 b hb).2⟩, by rw [z23]; exact Nat.lt_succ_of_lt lt⟩
  have st3 := T.keep _ _ s3.heap st2 fun b _ o z => k23 b o z
  rw [e3]
  generalize hD : s2.heap.objs.size = D at w0 turn I3 f3
  generalize upd H2 D (.lst []) = H3 at I3 f3 w0
  have I4 := block_start I3 ok hN f3
  have pg := hg s3 H3 s3.heap.objs.size (cellsFrom (s3.heap.objs.size + 1) scope.names (cloFrom X.env.cells scope.names [])) fp
  have pt := ht pins σ s3 H3 s3.heap.objs.size (cellsFrom (s3.heap.objs.size + 1) scope.names (cloFrom X.env.cells scope.names [])) fp I3 fun b hb => (f3 b hb).1
  have pe := he s3 H3 s3.heap.objs.size (cellsFrom (s3.heap.objs.size + 1) scope.names (cloFrom X.env.cells scope.names [])) fp
  generalize hce : compEnvC scope (cellsFrom (s3.heap.objs.size + 1) scope.names (cloFrom X.env.cells scope.names [])) s3.heap.objs.size X.env = ce at I4 pg pt pe
  have cL : ce.locals = s3.heap.objs.size := by rw [← hce]; rfl
  obtain ⟨s4, e4, I4, k34⟩ : ∃ s4 : Shared, { s3 with heap := pushCells (s3.heap.push { cls := .type "dict", data := .dict #[] }) scope.names } = s4 ∧ Inv (X.blk s3 H3 scope ce fp) [] (wipe σ (own.map (·.2))) H3 s4 ∧ ∀ b o, s3.heap.get? b = some o → s4.heap.get? b = some o :=
    ⟨_, rfl, I4, fun b o z => pushCells_keeps _ _ _ _ (Heap.get?_push_of_some _ z)⟩
  have st4 := T.keep _ _ s4.heap st3 fun b _ o z => k34 b o z
  have stat : ∀ {σ' : L2.St} {H' : Hp} {s' : Shared}, Inv (X.blk s3 H3 scope ce fp) [] σ' H' s' → (∀ b ∈ fp, H' b = none) → ∀ b ∈ fp, FpOk (X.blk s3 H3 scope ce fp) [] H' b := fun {σ' H' s'} I' hn b hb => by
    obtain ⟨x1, x2⟩ := I'.ok.exf b hb
    refine ⟨hn b hb, x1, I'.ok.exfs b hb, .inl hb, fun x c z => x2 x c z, fun p hp => ?_⟩
    replace hp : p ∈ ([] : List (Addr × Obj)) ++ [] := hp
    simp at hp
  have loop : codeAny (model X.prog X.w) X.A (.compLoop (.ListComp elt [⟨tg, iter, ifs, 0⟩] scope pos) 0 (.ref it) (.ref D) ce) (compPost (model X.prog X.w) X.A X.xe none (EP X pins σ Q) (.ref D) s3.heap.objs.size) s4 := by
    refine compLoop_any (fun n s' => ∃ i H', Inv (X.blk s3 H3 scope ce fp) [] (wipe σ (own.map (·.2))) H' s' ∧ tn i s'.heap ∧ (∀ b ∈ fp, H' b = none) ∧ W i n H') (fun n s5 ⟨i, H5, I5, st5, n5, w5⟩ => ?_) m0 ⟨0, H3, I4, st4, fun b hb => (f3 b hb).1.1, w0⟩
    rcases turn i n H5 w5 with ⟨stop, qq⟩ | ⟨go, Nx, hNx, step⟩
    · refine thnF (T.done (X.blk s3 H3 scope ce fp) rfl rfl rfl hc i [] s5 _ H5 (fun _ _ => False) I5 (stat I5 n5) st5 stop) fun r s6 ⟨hr, I6⟩ => ?_
      subst hr
      have I7 : Inv X pins σ H5 s6 := I3.call' (ch := fp) I6.os I6.base I6.hok I6.bare fun b hb => let z := (f3 b hb).1.2; ⟨z.2.2.1, z.1, z.2.2.2.1, z.2.2.2.2⟩
      obtain ⟨m, hn, _⟩ := I6.loc
      replace hn : s6.heap.Ns ce.locals m := hn
      have nC : H5 ce.locals = none := I6.free
      rw [cL] at hn nC
      have F := I3.fpOk (Nat.le_refl _) nC
      exact ⟨m, hn, fun h'' sb => ⟨.ref D, H5, I7.turned (t' := s6.toks) (fun b o hb z => (sb.2 b hb).trans z) F.1 F.2.1 F.2.2.2.1 F.2.2.2.2.1 F.2.2.2.2.2, rfl, qq⟩⟩
    · refine thnF (T.item (X.blk s3 H3 scope ce fp) rfl rfl rfl hc i [] s5 _ H5 (fun _ _ => False) I5 (stat I5 n5) st5 go) fun r s6 ⟨u, hr, h6⟩ => ?_
      subst hr
      refine thnF h6 fun _ s7 ⟨x, H7, I7, r7, y7, st7, n7⟩ => ?_
      refine thnF (pg.run _ s7 _ H7 x u _ (I7.pinned (stat I7 n7) (T.obj _ _ st7)) r7 (step x H7 y7)) fun _ s8 ⟨σ8, H8, I8, hw8, q8⟩ => ?_
      refine thnF (pt.run _ s8 σ8 H8 _ I8 q8) fun b s9 ⟨H9, I9, q9⟩ => ?_
      have fin : ∀ {s' : Shared} {H' : Hp}, Inv (X.blk s3 H3 scope ce fp) ([] ++ pinsAt fp s7.heap) σ8 H' s' → Nx H' → ∃ m, m < n ∧ ∃ i H', Inv (X.blk s3 H3 scope ce fp) [] (wipe σ (own.map (·.2))) H' s' ∧ tn i s'.heap ∧ (∀ b ∈ fp, H' b = none) ∧ W i m H' := fun {s' H'} I' nx => by
        have held : ∀ b ∈ fp, ∀ o, s7.heap.get? b = some o → s'.heap.get? b = some o ∧ H' b = none := fun b hb o z =>
          let y := I'.pin (b, o) (List.mem_append_right _ (List.mem_append_right _ (mem_pinsAt hb z)))
          ⟨y.1, y.2.1⟩
        refine (hNx H' nx).elim fun m' hm => ⟨m', hm.1, i + 1, H', (I'.unpinned (pins := [])).weak (by rw [← hw8, wipe_length]) (fun j v z => ?_), T.keep _ _ _ st7 fun b hb o z => (held b hb o z).1, fun b hb => ?_, hm.2⟩
        · rw [← hw8] at z
          exact (wipe_some z).1
        · exact (T.obj _ _ st7 b hb).elim fun o z => (held b hb o z.1).2
      cases b
      · simp only [if_false, Bool.false_eq_true] at q9 ⊢
        exact fin I9 q9
      · simp only [if_true, if_pos] at q9 ⊢
        exact thnF (pe.run _ s9 σ8 H9 _ I9 q9) fun z s10 ⟨yv, H10, I10, r10, acc, hD10, hz10, nx⟩ => app_ok (X := X.blk s3 H3 scope ce fp) I10 hD10 hz10 r10 fun s11 I11 => fin I11 nx
  rw [← e4] at loop st4
  subst hce
  exact codeAny_compStart_list loop (T.self X.A 0 _ _ _ st4 loop)
end
end LamY
/-! The mathematics of judging: sets of gaps as numbers; plans as what leads from gaps to gaps. Free of any row. -/
namespace Wd
/-! ### bits -/
theorem tb_or {a b i : Nat} : (a ||| b).testBit i = (a.testBit i || b.testBit i) := Nat.testBit_or ..
theorem tb_and {a b i : Nat} : (a &&& b).testBit i = (a.testBit i && b.testBit i) := Nat.testBit_and ..
theorem tb_shl {a i j : Nat} : (a <<< i).testBit j = (decide (i ≤ j) && a.testBit (j - i)) := by
  rw [Nat.testBit_shiftLeft]
theorem tb_shr {a i j : Nat} : (a >>> i).testBit j = a.testBit (i + j) := Nat.testBit_shiftRight ..
theorem tb_one {k i : Nat} : (2 ^ k).testBit i = decide (k = i) := Nat.testBit_two_pow ..
theorem tb_low {k i : Nat} : (2 ^ k - 1).testBit i = decide (i < k) := Nat.testBit_two_pow_sub_one ..
/-- the bits of one set lie below n -/
def Below (n z : Nat) : Prop := ∀ i, z.testBit i = true → i < n
theorem below_lt {n z : Nat} (h : Below n z) : z < 2 ^ n := Nat.lt_pow_two_of_testBit z fun i hi => by
  cases hb : z.testBit i with
  | false => rfl
  | true => have := h i hb; omega
theorem tb_timely {lo hi i : Nat} (h : lo ≤ hi + 1) : (2 ^ (hi + 1) - 2 ^ lo).testBit i = decide (lo ≤ i ∧ i < hi + 1) := by
  obtain ⟨k, hk⟩ : ∃ k, hi + 1 = lo + k := ⟨hi + 1 - lo, by omega⟩
  have e : 2 ^ (hi + 1) - 2 ^ lo = (2 ^ k - 1) <<< lo := by
    rw [hk, Nat.pow_add, Nat.shiftLeft_eq, Nat.sub_mul, Nat.one_mul, Nat.mul_comm]
  rw [e, tb_shl, tb_low]
  by_cases c : lo ≤ i
  · rw [decide_eq_true c, Bool.true_and]
    exact decide_eq_decide.mpr ⟨fun z => ⟨c, by omega⟩, fun z => by omega⟩
  · rw [decide_eq_false c, Bool.false_and, decide_eq_false (fun z => c z.1)]
/-! ### a set spread -/
/-- one turn: how far it is spread, and the set -/
def spr (most : Nat) : Nat → Nat → Nat → Nat
  | 0, _, z => z
  | n + 1, done, z => if done < most then spr most n (done + min (done + 1) (most - done)) (z ||| (z <<< min (done + 1) (most - done))) else z
def Spread (z0 d z : Nat) : Prop := ∀ i, z.testBit i = true ↔ ∃ k, k ≤ d ∧ k ≤ i ∧ z0.testBit (i - k) = true
theorem spread_zero (z : Nat) : Spread z 0 z := fun i => ⟨fun h => ⟨0, Nat.le_refl _, Nat.zero_le _, h⟩, fun ⟨k, h1, _, h3⟩ => by
  have : k = 0 := by omega
  subst this; exact h3⟩
theorem spread_step {z0 d z s : Nat} (h : Spread z0 d z) (hs : s ≤ d + 1) : Spread z0 (d + s) (z ||| (z <<< s)) := fun i => by
  rw [tb_or, tb_shl, Bool.or_eq_true, Bool.and_eq_true, decide_eq_true_eq, h i]
  constructor
  · rintro (⟨k, h1, h2, h3⟩ | ⟨c, hz⟩)
    · exact ⟨k, by omega, h2, h3⟩
    · obtain ⟨k, h1, h2, h3⟩ := (h (i - s)).mp hz
      exact ⟨k + s, by omega, by omega, by rw [show i - (k + s) = i - s - k by omega]; exact h3⟩
  · rintro ⟨k, h1, h2, h3⟩
    by_cases c : k ≤ d
    · exact .inl ⟨k, c, h2, h3⟩
    · refine .inr ⟨by omega, (h (i - s)).mpr ⟨k - s, by omega, by omega, by rw [show i - s - (k - s) = i - k by omega]; exact h3⟩⟩
/-! ### what a window makes of gaps -/
/-- behind a pat; behind a work -/
def gP (lo hi g : Nat) : Nat := if lo ≤ g ∧ g ≤ hi then 0 else hi + 1
def gW (hi g d : Nat) : Nat := min (g + d) (hi + 1)
/-- the gaps from which a pat, a work leads into a goal -/
def preP (lo hi goal : Nat) : Nat := (if goal.testBit 0 = true then 2 ^ (hi + 1) - 2 ^ lo else 0) ||| (if goal.testBit (hi + 1) = true then (2 ^ lo - 1) ||| 2 ^ (hi + 1) else 0)
theorem preP_bit {lo hi goal g : Nat} (h : lo ≤ hi) : (preP lo hi goal).testBit g = true ↔ g ≤ hi + 1 ∧ goal.testBit (gP lo hi g) = true := by
  unfold preP gP
  rw [tb_or, Bool.or_eq_true]
  have a : (if goal.testBit 0 = true then 2 ^ (hi + 1) - 2 ^ lo else 0).testBit g = true ↔ goal.testBit 0 = true ∧ lo ≤ g ∧ g < hi + 1 := by
    by_cases c : goal.testBit 0 = true
    · rw [if_pos c, tb_timely (by omega), decide_eq_true_eq]; exact ⟨fun z => ⟨c, z⟩, fun z => z.2⟩
    · rw [if_neg c, Nat.zero_testBit]; exact ⟨(fun z => nomatch z), fun z => absurd z.1 c⟩
  have b : (if goal.testBit (hi + 1) = true then (2 ^ lo - 1) ||| 2 ^ (hi + 1) else 0).testBit g = true ↔ goal.testBit (hi + 1) = true ∧ (g < lo ∨ g = hi + 1) := by
    by_cases c : goal.testBit (hi + 1) = true
    · rw [if_pos c, tb_or, Bool.or_eq_true, tb_low, tb_one, decide_eq_true_eq, decide_eq_true_eq]; exact ⟨fun z => ⟨c, z.imp id Eq.symm⟩, fun z => z.2.imp id Eq.symm⟩
    · rw [if_neg c, Nat.zero_testBit]; exact ⟨(fun z => nomatch z), fun z => absurd z.1 c⟩
  rw [a, b]
  by_cases c : lo ≤ g ∧ g ≤ hi
  · rw [if_pos c]
    exact ⟨fun z => ⟨by omega, z.elim (fun y => y.1) fun y => by omega⟩, fun z => .inl ⟨z.2, c.1, by omega⟩⟩
  · rw [if_neg c]
    exact ⟨fun z => z.elim (fun y => by omega) fun y => ⟨by omega, y.1⟩, fun z => .inr ⟨z.2, by omega⟩⟩
/-- what gaps_ahead_of_work tells, of its steps -/
theorem preW_bit {hi goal least most g s1 goal2 s2 : Nat} (hb : Below (hi + 2) goal) (hl : least ≤ most) (h1 : Spread (2 ^ (hi + 1)) most s1) (e2 : goal2 = if goal.testBit (hi + 1) = true then goal ||| s1 else goal) (h2 : Spread goal2 (most - least) s2) (hg : g ≤ hi + 1) :
    (s2 >>> most).testBit g = true ↔ ∃ d, least ≤ d ∧ d ≤ most ∧ goal.testBit (gW hi g d) = true := by
  have k2 : ∀ d, d ≤ most → (goal2.testBit (g + d) = true ↔ goal.testBit (gW hi g d) = true) := fun d hd => by
    unfold gW
    by_cases c : g + d ≤ hi
    · rw [Nat.min_eq_left (by omega), e2]
      split
      · rw [tb_or, Bool.or_eq_true]
        refine ⟨fun z => z.elim id fun y => ?_, .inl⟩
        obtain ⟨k, _, y2, y3⟩ := (h1 _).mp y
        rw [tb_one, decide_eq_true_eq] at y3
        omega
      · exact Iff.rfl
    · rw [Nat.min_eq_right (by omega), e2]
      split
      · rename_i cb
        rw [tb_or, Bool.or_eq_true]
        refine ⟨fun _ => cb, fun _ => .inr ((h1 _).mpr ⟨g + d - (hi + 1), by omega, by omega, ?_⟩)⟩
        rw [tb_one, decide_eq_true_eq]; omega
      · rename_i cb
        refine ⟨fun z => ?_, fun z => absurd z cb⟩
        have := hb _ z
        have e : g + d = hi + 1 := by omega
        rw [e] at z; exact z
  rw [tb_shr, h2]
  constructor
  · rintro ⟨k, c1, c2, c3⟩
    refine ⟨most - k, by omega, by omega, (k2 _ (by omega)).mp ?_⟩
    rw [show g + (most - k) = most + g - k by omega]; exact c3
  · rintro ⟨d, c1, c2, c3⟩
    refine ⟨most - d, by omega, by omega, ?_⟩
    rw [show most + g - (most - d) = g + d by omega]; exact (k2 _ c2).mpr c3

/-! ### what a plan makes of gaps -/
def iterP (F : (Nat → Prop) → Nat → Prop) : Nat → (Nat → Prop) → Nat → Prop
  | 0, G => G
  | n + 1, G => F (iterP F n G)
mutual
/-- from the gap g some run leads into G -/
def Led (lo hi : Nat) : Pl → (Nat → Prop) → Nat → Prop
  | .pat, G, g => G (gP lo hi g)
  | .work a b, G, g => ∃ d : Nat, a ≤ (d : Int) ∧ (d : Int) ≤ b ∧ G (gW hi g d)
  | .row ps, G, g => Leds lo hi ps G g
  | .either ps, G, g => LedE lo hi ps G g
  | .loop a b p, G, g => ∃ n : Nat, a ≤ (n : Int) ∧ (n : Int) ≤ b ∧ iterP (Led lo hi p) n G g
def Leds (lo hi : Nat) : List Pl → (Nat → Prop) → Nat → Prop
  | [], G, g => G g
  | p :: ps, G, g => Led lo hi p (Leds lo hi ps G) g
def LedE (lo hi : Nat) : List Pl → (Nat → Prop) → Nat → Prop
  | [], _, _ => False
  | p :: ps, G, g => Led lo hi p G g ∨ LedE lo hi ps G g
end
theorem iterP_mono {F : (Nat → Prop) → Nat → Prop} (hF : ∀ {G G' : Nat → Prop}, (∀ i, G i → G' i) → ∀ i, F G i → F G' i) {G G' : Nat → Prop} (h : ∀ i, G i → G' i) : ∀ n i, iterP F n G i → iterP F n G' i
  | 0, i, x => h i x
  | n + 1, i, x => hF (iterP_mono hF h n) i x
mutual
theorem Led.mono {lo hi : Nat} : ∀ (p : Pl) {G G' : Nat → Prop}, (∀ i, G i → G' i) → ∀ i, Led lo hi p G i → Led lo hi p G' i
  | .pat, G, G', h, i, x => by unfold Led at x ⊢; exact h _ x
  | .work a b, G, G', h, i, x => by
    unfold Led at x ⊢
    obtain ⟨d, h1, h2, h3⟩ := x
    exact ⟨d, h1, h2, h _ h3⟩
  | .row ps, G, G', h, i, x => by unfold Led at x ⊢; exact Leds.mono ps h i x
  | .either ps, G, G', h, i, x => by unfold Led at x ⊢; exact LedE.mono ps h i x
  | .loop a b p, G, G', h, i, x => by
    unfold Led at x ⊢
    obtain ⟨n, h1, h2, h3⟩ := x
    exact ⟨n, h1, h2, iterP_mono (fun hh j y => Led.mono p hh j y) h n i h3⟩
theorem Leds.mono {lo hi : Nat} : ∀ (ps : List Pl) {G G' : Nat → Prop}, (∀ i, G i → G' i) → ∀ i, Leds lo hi ps G i → Leds lo hi ps G' i
  | [], G, G', h, i, x => by unfold Leds at x ⊢; exact h i x
  | p :: ps, G, G', h, i, x => by unfold Leds at x ⊢; exact Led.mono p (Leds.mono ps h) i x
theorem LedE.mono {lo hi : Nat} : ∀ (ps : List Pl) {G G' : Nat → Prop}, (∀ i, G i → G' i) → ∀ i, LedE lo hi ps G i → LedE lo hi ps G' i
  | [], G, G', h, i, x => by unfold LedE at x; exact x.elim
  | p :: ps, G, G', h, i, x => by unfold LedE at x ⊢; exact x.imp (Led.mono p h i) (LedE.mono ps h i)
end
theorem gP_le {lo hi g : Nat} : gP lo hi g ≤ hi + 1 := by unfold gP; split <;> omega
theorem gW_le {hi g d : Nat} : gW hi g d ≤ hi + 1 := by unfold gW; omega
theorem gP_bit {lo hi : Nat} : gP lo hi (hi + 1) = hi + 1 := by unfold gP; rw [if_neg (by omega)]
theorem gW_bit {hi d : Nat} : gW hi (hi + 1) d = hi + 1 := by unfold gW; omega
mutual
/-- bitten stays bitten -/
theorem led_bitten {lo hi : Nat} : ∀ (p : Pl) {d l : Nat} {G : Nat → Prop}, okP d l p → G (hi + 1) → Led lo hi p G (hi + 1)
  | .pat, _, _, G, _, g => by unfold Led; rw [gP_bit]; exact g
  | .work a b, _, _, G, ok, g => by
    unfold okP at ok
    unfold Led
    exact ⟨a.toNat, by omega, by omega, by rw [gW_bit]; exact g⟩
  | .row ps, 0, _, G, ok, _ => by unfold okP at ok; exact ok.elim
  | .row ps, d + 1, l, G, ok, g => by unfold okP at ok; unfold Led; exact leds_bitten ps ok.2.2 g
  | .either ps, 0, _, G, ok, _ => by unfold okP at ok; exact ok.elim
  | .either [], d + 1, l, G, ok, g => by unfold okP at ok; exact absurd ok.1 (Nat.lt_irrefl 0)
  | .either (p :: ps), d + 1, l, G, ok, g => by
    unfold okP okPs at ok
    unfold Led LedE
    exact .inl (led_bitten p ok.2.2.1 g)
  | .loop a b p, 0, _, G, ok, _ => by unfold okP at ok; exact ok.elim
  | .loop a b p, d + 1, 0, G, ok, _ => by unfold okP at ok; exact ok.elim
  | .loop a b p, d + 1, l + 1, G, ok, g => by
    unfold okP at ok
    unfold Led
    refine ⟨a.toNat, by omega, by omega, ?_⟩
    have it : ∀ n, iterP (Led lo hi p) n G (hi + 1) := fun n => by
      induction n with
      | zero => exact g
      | succ n ih => exact led_bitten p ok.2.2.2 ih
    exact it _
theorem leds_bitten {lo hi : Nat} : ∀ (ps : List Pl) {d l : Nat} {G : Nat → Prop}, okPs d l ps → G (hi + 1) → Leds lo hi ps G (hi + 1)
  | [], _, _, G, _, g => by unfold Leds; exact g
  | p :: ps, d, l, G, ok, g => by
    unfold okPs at ok
    unfold Leds
    exact led_bitten p ok.1 (leds_bitten ps ok.2 g)
end
/-- the number of a goal's gaps, and of the gaps from which a plan leads there -/
abbrev inS (z : Nat) : Nat → Prop := fun j => z.testBit j = true
structure Bits (hi : Nat) (F : (Nat → Prop) → Nat → Prop) (z g : Nat) : Prop where
  low : Below (hi + 2) g
  bit : ∀ i, i ≤ hi + 1 → (g.testBit i = true ↔ F (inS z) i)
theorem bits_eq {a b n : Nat} (ha : Below n a) (hb : Below n b) (h : ∀ i, i < n → (a.testBit i = true ↔ b.testBit i = true)) : a = b := Nat.eq_of_testBit_eq fun i => by
  by_cases c : i < n
  · have := h i c
    cases x : a.testBit i <;> cases y : b.testBit i <;> simp_all
  · cases x : a.testBit i with
    | true => exact absurd (ha i x) c
    | false =>
      cases y : b.testBit i with
      | true => exact absurd (hb i y) c
      | false => rfl
theorem Bits.uniq {hi : Nat} {F : (Nat → Prop) → Nat → Prop} {z a b : Nat} (h1 : Bits hi F z a) (h2 : Bits hi F z b) : a = b :=
  bits_eq h1.low h2.low fun i hi' => (h1.bit i (by omega)).trans (h2.bit i (by omega)).symm
/-! ### how many -/
def card (n z : Nat) : Nat := ((List.range n).filter fun i => z.testBit i).length
theorem card_le (n z : Nat) : card n z ≤ n := by
  have := List.length_filter_le (fun i => z.testBit i) (List.range n)
  rw [List.length_range] at this
  exact this
theorem filter_len_le {l : List Nat} {p q : Nat → Bool} (h : ∀ x ∈ l, p x = true → q x = true) : (l.filter p).length ≤ (l.filter q).length := by
  induction l with
  | nil => exact Nat.le_refl _
  | cons x l ih =>
    have ih := ih fun y hy => h y (List.mem_cons_of_mem _ hy)
    have hx := h x List.mem_cons_self
    rw [List.filter_cons, List.filter_cons]
    by_cases c : p x = true
    · rw [if_pos c, if_pos (hx c), List.length_cons, List.length_cons]; omega
    · rw [if_neg c]
      split
      · rw [List.length_cons]; omega
      · exact ih
theorem filter_len_lt {l : List Nat} {p q : Nat → Bool} (h : ∀ x ∈ l, p x = true → q x = true) {y : Nat} (hy : y ∈ l) (hp : p y = false) (hq : q y = true) : (l.filter p).length < (l.filter q).length := by
  induction l with
  | nil => cases hy
  | cons x l ih =>
    have hl := filter_len_le (l := l) (p := p) (q := q) fun z hz => h z (List.mem_cons_of_mem _ hz)
    have hx := h x List.mem_cons_self
    rw [List.filter_cons, List.filter_cons]
    rcases List.mem_cons.mp hy with rfl | hy
    · rw [if_neg (by simp [hp]), if_pos hq, List.length_cons]; omega
    · have ih := ih (fun z hz => h z (List.mem_cons_of_mem _ hz)) hy
      by_cases c : p x = true
      · rw [if_pos c, if_pos (hx c), List.length_cons, List.length_cons]; omega
      · rw [if_neg c]
        split
        · rw [List.length_cons]; omega
        · exact ih
theorem card_lt {n a b : Nat} (ha : Below n a) (hb : Below n b) (h : ∀ i, a.testBit i = true → b.testBit i = true) (ne : a ≠ b) : card n a < card n b := by
  have ⟨i, h1, h2⟩ : ∃ i, a.testBit i = false ∧ b.testBit i = true := by
    refine Classical.byContradiction fun z => ne (bits_eq ha hb fun i _ => ⟨h i, fun y => ?_⟩)
    cases x : a.testBit i with
    | true => rfl
    | false => exact absurd ⟨i, x, y⟩ z
  exact filter_len_lt (fun x _ y => h x y) (List.mem_range.mpr (hb i h2)) h1 h2
end Wd
/-! |, &, <<, >> of naturals; a method of several classes. -/
namespace Wd
open PySem PySem.Spec PyProof.Rows L2
section
variable {X : Cx}
def rOrB : R2 := fun x y H Q => ∃ n m : Nat, x = .int (n : Int) ∧ y = .int (m : Int) ∧ Q (.int ((n ||| m : Nat) : Int)) H
theorem op_orB : OpR X (binaryOp .BitOr) rOrB := by
  intro pins s σ H x y v u Q I rx ry h
  obtain ⟨n, m, rfl, rfl, q⟩ := h
  have e : Builtin.bitOr (n : Int) (m : Int) = ((n ||| m : Nat) : Int) := by rw [bitOr_nn (Int.natCast_nonneg _) (Int.natCast_nonneg _), Int.toNat_natCast, Int.toNat_natCast]
  rw [← e] at q
  exact op_or pins s σ H _ _ v u Q I rx ry ⟨_, _, rfl, rfl, q⟩
def rAndB : R2 := fun x y H Q => ∃ n m : Nat, x = .int (n : Int) ∧ y = .int (m : Int) ∧ Q (.int ((n &&& m : Nat) : Int)) H
theorem op_andB : OpR X (binaryOp .BitAnd) rAndB := by
  intro pins s σ H x y v u Q I rx ry h
  obtain ⟨n, m, rfl, rfl, q⟩ := h
  have e : Builtin.bitAnd (n : Int) (m : Int) = ((n &&& m : Nat) : Int) := rfl
  rw [← e] at q
  exact op_and pins s σ H _ _ v u Q I rx ry ⟨_, _, rfl, rfl, q⟩
def rShlB : R2 := fun x y H Q => ∃ n m : Nat, x = .int (n : Int) ∧ y = .int (m : Int) ∧ n < 2 ^ 100000 ∧ m ≤ 100000 ∧ Q (.int ((n <<< m : Nat) : Int)) H
theorem op_shlB : OpR X (binaryOp .LShift) rShlB := by
  intro pins s σ H x y v u Q I rx ry h
  obtain ⟨n, m, rfl, rfl, hn, hm, q⟩ := h
  refine op_shlN pins s σ H _ _ v u Q I rx ry ⟨n, m, rfl, rfl, shl_ok (n := 100000) (by rw [Int.natAbs_natCast]; exact hn) (by omega), ?_⟩
  have e : (n : Int) * 2 ^ m = ((n <<< m : Nat) : Int) := by rw [Nat.shiftLeft_eq, Int.natCast_mul, PySem.W.kbt_cast]
  rw [e]; exact q
def rShrB : R2 := fun x y H Q => ∃ n m : Nat, x = .int (n : Int) ∧ y = .int (m : Int) ∧ Q (.int ((n >>> m : Nat) : Int)) H
theorem op_shrB : OpR X (binaryOp .RShift) rShrB := by
  intro pins s σ H x y v u Q I rx ry h
  obtain ⟨n, m, rfl, rfl, q⟩ := h
  refine op_shrN pins s σ H _ _ v u Q I rx ry ⟨n, m, rfl, rfl, ?_⟩
  have e : (n : Int) / 2 ^ m = ((n >>> m : Nat) : Int) := by rw [Nat.shiftRight_eq_div_pow, Int.natCast_ediv, PySem.W.kbt_cast]
  rw [e]; exact q
end
/-! ### a method that several classes have -/
def tMethA (Cs : List Addr) (m : Str) (sp : Sp) (ta : TE) (t : TA) : TE := fun σ H Q => ta σ H fun y H1 => ∃ a dx fs C, C ∈ Cs ∧ y = .ref a ∧ H1 a = some (.ins C dx fs) ∧ fs.lookup m = none ∧ t σ H1 fun vs H2 => sp (y :: (vs ++ [])) H2 Q C8.E0
def MetA (P : Program) (w : World) (K : PySem.W.Frag) (mg : Str → Option Value) (base : Heap) (k : Nat) (Cs : List Addr) (m : Str) (sp : Sp) : Prop := ∀ C ∈ Cs, ∃ k', k' ≤ k ∧ C8.Met P w K mg base k' C m sp []
section
variable {X : Cx} {k j : Nat} {Cs : List Addr} {m : Str} {sp : Sp} {pos apos : Pos} {o e : Expr} {es : List Expr} {ta : TE} {t : TA}
theorem pe_mtA {pl : Sem Bool} (c : MetA X.prog X.w X.K X.mg X.base k Cs m sp) (hr : Room j X.A) (hk : k ≤ j) (ho : PE X o ta) (ha : PA X (e :: es) t)
    (hst : starEach (e :: es) X.env = (false, eval e X.env) :: starEach es X.env := by rfl) (hpl : (backTo pos (starEach es X.env)).any (·.1) = false := by rfl)
    (ht : eval (.Call (.Attribute o m apos) (e :: es) [] pos) X.env = (do
      let obj ← eval o X.env
      standAt apos.atName
      let (fn, own) ← holding [obj] (getMethod obj m pl)
      callWith pos fn own (backTo pos (starEach (e :: es) X.env)) (backToKw pos (keywordEach [] X.env))) := by rfl) :
    PE X (.Call (.Attribute o m apos) (e :: es) [] pos) (tMethA Cs m sp ta t) := by
  refine ⟨fun pins s σ H Q I h => PySem.W.methodCall_KW (pl := pl) (thn (ho.run pins s σ H _ I h) fun u s1 ⟨y, H1, I1, ry, a, dx, fs, C, hC, ey, ea, l, q⟩ => ?_) ht⟩
  subst ey
  obtain rfl : u = Value.ref a := ry
  obtain ⟨k', hk', f, fd, ps, ds, hc, hm, F, b, d⟩ := c C hC
  exact getmeth_ok I1 ea hc hm l (PySem.W.callWith_K (first := [.ref a]) (h₀ := X.base) I.ok.mod.kin hm.kp (thn (ha.run pos pins s1 σ H1 _ I1 q) fun us s2 ⟨vs, H2, I2, r, q2⟩ => ⟨I2.kIn, run_fn (us := .ref a :: us) (vs := .ref a :: vs) F (hr.mono (Nat.le_trans hk' hk)) b d C8.pass0 I2 (.cons rfl r) q2⟩) hst hpl)
end
end Wd
namespace K02
open PySem PySem.Spec PyProof.Rows L2 Wd
def top (i : Nat) : Stmt := PySem.Challenge.pw_windowdog_k02_plans_that_are_none.main.body.getD i (.Pass ⟨0, 0, 0, 0⟩)
/-- the built-in names that the text calls -/
structure Txt (K : PySem.W.Frag) (mg : Str → Option Value) : Prop where
  n_isinstance : mg "isinstance" = none
  n_len : mg "len" = none
  n_int : mg "int" = none
  n_bool : mg "bool" = none
  n_range : mg "range" = none
  n_list : mg "list" = none
  n_tuple : mg "tuple" = none
  n_str : mg "str" = none
  n_sum : mg "sum" = none
section
variable {P : Program} {w : World} {K : PySem.W.Frag} {mg : Str → Option Value} {base : Heap}
abbrev s_law_start : Stmt := top 45
theorem sc_law_start : FnScope ["_law_script", "_law_mixed", "_law_cell"] ["_law_script"] (C8.fnScope s_law_start) := C8.fnScope_by (by decide +kernel)
def sp_start (K : PySem.W.Frag) : Sp := fun vs H Q _ => ∃ (B : Hp) (sc : Addr) (ns : List Int), vs = [.ref sc] ∧ SqL K B sc (ns.map V.int) ∧ Same B H ∧ ns.length ≤ 63 ∧ ∀ H' S, H S = none → Same H H' → Dst K B H' S → Q (.ref S) H'
theorem ok_start (T : Txt K mg) {f : Addr} {fd : FuncData} (D : C8.Def K mg "_law_start" s_law_start f fd) (b : Binds K fd ["_law_script"] []) : C8.Cal P w K mg base 1 "_law_start" (sp_start K) [] := by
  refine C8.cal0 D b .nil sc_law_start (fun vs H Q E h => ?_) fun cdv A outer s H vs Q E hr h => ?_
  · obtain ⟨B, sc, ns, rfl, _⟩ := h; rfl
  · obtain ⟨B, sc, ns, rfl, hB, sB, hl, q⟩ := h
    have hS := list_same sB hB
    have nd := sc_law_start.nd
    refine ⟨_, (pss_cons (ps_set (i := 1) nd rfl (Or.inl rfl) pe_int)
      (pss_cons (ps_for PassesOwn.never rfl (pi_list (pv 0)) (pg_name (i := 2) nd rfl (Or.inl rfl)) (pss_one (ps_set (i := 1) nd rfl (Or.inl rfl) (pe_op op_mod (pe_op op_add (pe_op op_add (pe_op op_mulW (pv 1) pe_int) (pv 2)) pe_int) pe_int))))
      (pss_one (ps_ret (pe_lst (pa_cons (pv 0) (pa_cons pe_int (pa_cons (pv 1) (pa_cons pe_int pa_nil))))))))), ?_⟩
    walk_at "go"
    refine w_list (xs := ns.map V.int) (fun i σ H' => H' = H ∧ ∃ (m : Int) (v : Option V), σ = [some (.ref sc), some (.int m), v] ∧ 0 ≤ m ∧ m < 2147483647) ?_ ?_ ?_ ?_
    · exact ⟨rfl, 1, none, rfl, by decide, by decide⟩
    · rintro i σ H' _ ⟨rfl, _⟩; exact hS
    · rintro i x σ H' hx ⟨rfl, m, v, rfl, h1, h2⟩
      obtain ⟨c, hc, rfl⟩ := map_at hx
      walk_at "go"
      refine g_I (mulW_small h1 (by omega) (by decide) (by decide)) ?_
      walk_at "go"
      refine g_I (show (0 : Int) < 2147483647 by decide) ?_
      walk_at "go"
      exact ⟨rfl, _, _, rfl, by omega, by omega⟩
    · rintro σ H' ⟨rfl, m, v, rfl, h1, h2⟩
      walk_at "go"
      intro S hn
      exact q _ S hn (same_new hn) ⟨sc, ns, 0, m, 0, upd_same, .of hB (fun _ _ h => h) (Same.back sB hn), .of (sB.trans (same_new hn)), hl, by decide, h1, h2⟩

abbrev s_law_drawn : Stmt := top 46
theorem sc_law_drawn : FnScope ["_law_state", "_law_many", "_law_found", "_law_cell"] ["_law_state", "_law_many"] (C8.fnScope s_law_drawn) := C8.fnScope_by (by decide +kernel)
def sp_drawn (K : PySem.W.Frag) : Sp := fun vs H Q _ => ∃ (B : Hp) (S : Addr) (n : Int), vs = [.ref S, .int n] ∧ Dst K B H S ∧ 0 < n ∧ n < 10 ^ 38 ∧ ∀ H' v, Frm S H H' → Dst K B H' S → 0 ≤ v → v < n → Q (.int v) H'
theorem ok_drawn (T : Txt K mg) {f : Addr} {fd : FuncData} (D : C8.Def K mg "_law_drawn" s_law_drawn f fd) (b : Binds K fd ["_law_state", "_law_many"] []) : C8.Cal P w K mg base 1 "_law_drawn" (sp_drawn K) [] := by
  refine C8.cal0 D b .nil sc_law_drawn (fun vs H Q E h => ?_) fun cdv A outer s H vs Q E hr h => ?_
  · obtain ⟨B, S, n, rfl, _⟩ := h; rfl
  · obtain ⟨B, S, n, rfl, ⟨sc, ns, c, m, r, hS, hsB, fB, hl, c0, m0, m1⟩, n0, n1, q⟩ := h
    have hsc := hsB.frm fB
    have nd := sc_law_drawn.nd
    refine ⟨_, (pss_cons (ps_if (pt_cmpR op_gt (pe_ix (r := rIxL K) ix_list (pv 0) pe_int (fun _ _ => rfl)) pe_int (nomark _)) (pss_cons (ps_set (i := 2) nd rfl (Or.inl rfl) (pe_op op_mod (pe_ix (r := rIxL K) ix_list (pv 0) pe_int (fun _ _ => rfl)) (pv 1)))
      (pss_cons (ps_asg (pe_op op_fdivW (pe_ix (r := rIxL K) ix_list (pv 0) pe_int (fun _ _ => rfl)) (pv 1)) (pg_sub (pv 0) pe_int set_list))
      (pss_one (ps_ret (pv 2))))) pss_nil)
      (pss_cons (ps_asg (pe_op op_add (pe_ix (r := rIxL K) ix_list (pv 0) pe_int (fun _ _ => rfl)) pe_int) (pg_sub (pv 0) pe_int set_list))
      (pss_cons (ps_if (pt_cmpR op_le (pe_ix (r := rIxL K) ix_list (pv 0) pe_int (fun _ _ => rfl)) (pe_callB (r := Wd.rLen K) call_len1 (by rfl) T.n_len PySem.boot_len (pa_cons (pe_ix (r := rIxL K) ix_list (pv 0) pe_int (fun _ _ => rfl)) pa_nil)) (nomark _)) (pss_cons (ps_set (i := 3) nd rfl (Or.inl rfl) (pe_ix (r := rIxL K) ix_list (pe_ix (r := rIxL K) ix_list (pv 0) pe_int (fun _ _ => rfl)) (pe_op op_sub (pe_ix (r := rIxL K) ix_list (pv 0) pe_int (fun _ _ => rfl)) pe_int) (fun _ _ => rfl)))
      (pss_cons (ps_asg (pe_ifExp (pt_cmpR op_ge (pv 3) (pe_op op_pow pe_int pe_int) (nomark _)) (pe_op op_fdivW (pv 3) (pv 1)) pe_int) (pg_sub (pv 0) pe_int set_list))
      (pss_one (ps_ret (pe_op op_mod (pv 3) (pv 1)))))) pss_nil)
      (pss_cons (ps_asg (pe_op op_mod (pe_op op_add (pe_op op_mulW (pe_ix (r := rIxL K) ix_list (pv 0) pe_int (fun _ _ => rfl)) pe_int) pe_int) pe_int) (pg_sub (pv 0) pe_int set_list))
      (pss_one (ps_ret (pe_op op_mod (pe_op op_fdivW (pe_ix (r := rIxL K) ix_list (pv 0) pe_int (fun _ _ => rfl)) pe_int) (pv 1)))))))), ?_⟩
    walk_at "go"
    refine g_ixL (SqL.of hS) rfl ?_
    walk_at "go"
    refine g_ite (fun hr0 => ?_) (fun hr0 => ?_)
    · walk_at "go"
      refine g_ixL (SqL.of hS) rfl ?_
      walk_at "go"
      refine g_I n0 ?_
      walk_at "go"
      refine g_ixL (SqL.of hS) rfl ?_
      walk_at "go"
      refine g_I (divW_small n0 n1) ?_
      walk_at "go"
      refine g_setL hS rfl ?_
      walk_at "go"
      exact q _ _ .set ⟨sc, ns, c, m, r / n, upd_same, hsB, fB.trans .set, hl, c0, m0, m1⟩ (Int.emod_nonneg _ (by omega)) (Int.emod_lt_of_pos _ n0)
    · walk_at "go"
      refine g_ixL (SqL.of hS) rfl ?_
      walk_at "go"
      refine g_setL hS rfl ?_
      walk_at "go"
      refine g_ixL (SqL.of upd_same) rfl ?_
      walk_at "go"
      refine g_ixL (SqL.of upd_same) rfl ?_
      walk_at "go"
      refine g_len (.inl (hsc.frm .set).sq) ?_
      walk_at "go"
      rw [List.length_map]
      refine g_ite (fun hc => ?_) (fun hc => ?_)
      · walk_at "go"
        refine g_ixL (SqL.of upd_same) rfl ?_
        walk_at "go"
        refine g_ixL (SqL.of upd_same) rfl ?_
        walk_at "go"
        have hcl : c.toNat < ns.length := by omega
        refine g_ixL (hsc.frm .set).sq (at_of (j := c.toNat) (v := V.int (ns[c.toNat]'hcl)) (by omega) (by rw [List.getElem?_map, List.getElem?_eq_getElem hcl]; rfl)) ?_
        generalize ns[c.toNat]'hcl = z
        walk_at "go"
        refine g_I (pow_small (by decide) (by decide) (by decide)) ?_
        walk_at "go"
        have fin : ∀ x : Int, Frm S H (upd (upd H S (HO.lst [V.ref sc, V.int (c + 1), V.int m, V.int r])) S (HO.lst [V.ref sc, V.int (c + 1), V.int m, V.int x])) ∧ Dst K B (upd (upd H S (HO.lst [V.ref sc, V.int (c + 1), V.int m, V.int r])) S (HO.lst [V.ref sc, V.int (c + 1), V.int m, V.int x])) S := fun x =>
          ⟨Frm.set.trans .set, sc, ns, c + 1, m, x, upd_same, hsB, (fB.trans .set).trans .set, hl, by omega, m0, m1⟩
        refine g_ite (fun hz => ?_) (fun hz => ?_)
        · walk_at "go"
          refine g_I (divW_small n0 n1) ?_
          walk_at "go"
          refine g_setL upd_same rfl ?_
          walk_at "go"
          refine g_I n0 ?_
          exact q _ _ (fin _).1 (fin _).2 (Int.emod_nonneg _ (by omega)) (Int.emod_lt_of_pos _ n0)
        · walk_at "go"
          refine g_setL upd_same rfl ?_
          walk_at "go"
          refine g_I n0 ?_
          exact q _ _ (fin _).1 (fin _).2 (Int.emod_nonneg _ (by omega)) (Int.emod_lt_of_pos _ n0)
      · walk_at "go"
        refine g_ixL (SqL.of upd_same) rfl ?_
        walk_at "go"
        refine g_I (mulW_small m0 (by omega) (by decide) (by decide)) ?_
        walk_at "go"
        refine g_I (show (0 : Int) < 2147483647 by decide) ?_
        walk_at "go"
        refine g_setL upd_same rfl ?_
        walk_at "go"
        refine g_ixL (SqL.of upd_same) rfl ?_
        walk_at "go"
        refine g_I (divW_small (by decide) (by decide)) ?_
        walk_at "go"
        refine g_I n0 ?_
        exact q _ _ (Frm.set.trans .set) ⟨sc, ns, c + 1, _, r, upd_same, hsB, (fB.trans .set).trans .set, hl, by omega, Int.emod_nonneg _ (by decide), Int.emod_lt_of_pos _ (by decide)⟩ (Int.emod_nonneg _ (by omega)) (Int.emod_lt_of_pos _ n0)
theorem use_drawn {B H : Hp} {S : Addr} {n : Int} {Q : VK} {E : XK} (d : Dst K B H S) (h0 : 0 < n) (h1 : n < 10 ^ 38) (k : ∀ H' v, Frm S H H' → Dst K B H' S → 0 ≤ v → v < n → Q (.int v) H') : sp_drawn K ([.ref S, .int n] ++ []) H Q E := ⟨B, S, n, rfl, d, h0, h1, k⟩
end
end K02
namespace K02
open PySem PySem.Spec PyProof.Rows L2 Wd
/-! ### a plan done: its pats, the delays left, the moment behind it -/
abbrev Res := Option (List Int × List Int × Int)
def seqR (r : Res) (k : List Int → Int → Res) : Res := match r with
  | none => none
  | some (a, ds, t) => match k ds t with
    | none => none
    | some (b, ds', t') => some (a ++ b, ds', t')
def iter (f : List Int → Int → Res) : Nat → List Int → Int → Res
  | 0, ds, t => some ([], ds, t)
  | n + 1, ds, t => seqR (f ds t) (iter f n)
mutual
def rn : Pl → List Int → Int → Res
  | .pat, ds, t => some ([t], ds, t)
  | .work _ _, [], _ => none
  | .work a b, d :: ds, t => if a ≤ d ∧ d ≤ b then some ([], ds, t + d) else none
  | .row ps, ds, t => rns ps ds t
  | .either _, [], _ => none
  | .either ps, d :: ds, t => if 0 ≤ d then rnAt ps d.toNat ds t else none
  | .loop _ _ _, [], _ => none
  | .loop a b p, d :: ds, t => if a ≤ d ∧ d ≤ b then iter (rn p) d.toNat ds t else none
def rns : List Pl → List Int → Int → Res
  | [], ds, t => some ([], ds, t)
  | p :: ps, ds, t => seqR (rn p ds t) (rns ps)
def rnAt : List Pl → Nat → List Int → Int → Res
  | [], _, _, _ => none
  | p :: _, 0, ds, t => rn p ds t
  | _ :: ps, n + 1, ds, t => rnAt ps n ds t
end
theorem seqR_some {a ds : List Int} {t : Int} {k : List Int → Int → Res} {b ds' : List Int} {t' : Int} (h : k ds t = some (b, ds', t')) : seqR (some (a, ds, t)) k = some (a ++ b, ds', t') := by
  unfold seqR; simp only [h]
theorem seqR_inv {r : Res} {k : List Int → Int → Res} {x ds' : List Int} {t' : Int} (h : seqR r k = some (x, ds', t')) : ∃ a ds t b, r = some (a, ds, t) ∧ k ds t = some (b, ds', t') ∧ x = a ++ b := by
  unfold seqR at h
  match r, h with
  | some (a, ds, t), h =>
    simp only at h
    cases e : k ds t with
    | none => rw [e] at h; cases h
    | some z =>
      obtain ⟨b, d2, t2⟩ := z
      rw [e] at h
      cases h
      exact ⟨a, ds, t, b, rfl, e, rfl⟩
theorem iter_rep (p : Pl) : ∀ (n : Nat) (ds : List Int) (t : Int), iter (rn p) n ds t = rns (List.replicate n p) ds t
  | 0, ds, t => by simp only [iter, List.replicate_zero, rns]
  | n + 1, ds, t => by
    have e : iter (rn p) n = rns (List.replicate n p) := funext fun a => funext fun b => iter_rep p n a b
    simp only [iter, List.replicate_succ, rns, e]
theorem rnAt_at : ∀ {ps : List Pl} {n : Nat} {p : Pl}, ps[n]? = some p → ∀ ds t, rnAt ps n ds t = rn p ds t
  | _ :: _, 0, _, e, ds, t => by cases e; simp only [rnAt]
  | _ :: ps, n + 1, _, e, ds, t => by simp only [rnAt]; exact rnAt_at (ps := ps) e ds t
theorem rnAt_some : ∀ {ps : List Pl} {n : Nat} {ds : List Int} {t : Int} {r : List Int × List Int × Int}, rnAt ps n ds t = some r → ∃ p, ps[n]? = some p ∧ rn p ds t = some r
  | [], _, _, _, _, h => by simp only [rnAt] at h; cases h
  | p :: _, 0, ds, t, r, h => by simp only [rnAt] at h; exact ⟨p, rfl, h⟩
  | _ :: ps, n + 1, ds, t, r, h => by simp only [rnAt] at h; exact rnAt_some (ps := ps) h
/-- delays that are used up -/
def Val (f : List Int → Int → Res) (ds : List Int) : Prop := ∀ rest t, ∃ np t', f (ds ++ rest) t = some (np, rest, t')
theorem val_nil : Val (rns []) [] := fun rest t => ⟨[], t, by simp only [List.nil_append, rns]⟩
theorem val_snoc : ∀ {ps : List Pl} {ds : List Int} {p : Pl} {d : List Int}, Val (rns ps) ds → Val (rn p) d → Val (rns (ps ++ [p])) (ds ++ d)
  | [], ds, p, d, h, hp => fun rest t => by
    obtain ⟨np, t1, e⟩ := h (d ++ rest) t
    simp only [rns] at e
    obtain ⟨rfl, e2, rfl⟩ : np = [] ∧ ds ++ (d ++ rest) = d ++ rest ∧ t = t1 := by
      have := Option.some.inj e
      simp only [Prod.mk.injEq] at this
      exact ⟨this.1.symm, this.2.1, this.2.2⟩
    obtain ⟨np2, t2, e3⟩ := hp rest t
    refine ⟨np2 ++ [], t2, ?_⟩
    rw [List.append_assoc, e2]
    simp only [List.nil_append, rns]
    rw [e3]
    exact seqR_some (by simp only [rns])
  | q :: ps, ds, p, d, h, hp => fun rest t => by
    obtain ⟨np, t1, e⟩ := h (d ++ rest) t
    simp only [rns] at e
    obtain ⟨a, ds1, s1, b, e1, e2, e3⟩ := seqR_inv e
    -- the rest of the parts, from what the first leaves
    obtain ⟨np2, t2, e4⟩ := hp rest t1
    have app : ∀ (ps : List Pl) (x : List Int) (s : Int) (b y : List Int) (s' : Int), rns ps x s = some (b, y, s') → ∀ (c z : List Int) (s'' : Int), rn p y s' = some (c, z, s'') → rns (ps ++ [p]) x s = some (b ++ c, z, s'') := by
      intro ps
      induction ps with
      | nil =>
        intro x s b y s' h1 c z s'' h2
        simp only [rns] at h1
        cases h1
        simp only [List.nil_append, rns, h2]
        have := seqR_some (a := c) (k := rns []) (ds := z) (t := s'') (b := []) (ds' := z) (t' := s'') (by simp only [rns])
        rw [List.append_nil] at this
        exact this
      | cons r ps ih =>
        intro x s b y s' h1 c z s'' h2
        simp only [rns] at h1
        obtain ⟨a1, x1, u1, b1, g1, g2, rfl⟩ := seqR_inv h1
        simp only [List.cons_append, rns, g1]
        rw [List.append_assoc]
        exact seqR_some (ih x1 u1 b1 y s' g2 c z s'' h2)
    refine ⟨a ++ (b ++ np2), t2, ?_⟩
    rw [List.append_assoc]
    simp only [List.cons_append, rns, e1]
    exact seqR_some (app ps ds1 s1 b (d ++ rest) t1 e2 np2 rest t2 e4)
mutual
/-- how many delays at the most -/
def mx : Pl → Nat
  | .pat => 0
  | .work _ _ => 1
  | .row ps => mxs ps
  | .either ps => 1 + mxs ps
  | .loop _ _ p => 1 + 9 * mx p
def mxs : List Pl → Nat
  | [] => 0
  | p :: ps => mx p + mxs ps
end
theorem ten_pos (l : Nat) : 1 ≤ 10 ^ l := Nat.pow_pos (by decide)
mutual
theorem mx_le : ∀ (p : Pl) (d l : Nat), okP d l p → mx p ≤ Wd.cnt p * 10 ^ l
  | .pat, d, l, h => Nat.zero_le _
  | .work _ _, d, l, h => by simp only [mx, Wd.cnt, Nat.one_mul]; exact ten_pos l
  | .row ps, 0, l, h => by unfold okP at h; exact h.elim
  | .row ps, d + 1, l, h => by
    unfold okP at h
    have := mxs_le ps d l h.2.2
    simp only [mx, Wd.cnt, Nat.add_mul]
    omega
  | .either ps, 0, l, h => by unfold okP at h; exact h.elim
  | .either ps, d + 1, l, h => by
    unfold okP at h
    have := mxs_le ps d l h.2.2
    have h1 : 1 ≤ 10 ^ l := ten_pos l
    simp only [mx, Wd.cnt, Nat.add_mul]
    omega
  | .loop a b p, 0, l, h => by unfold okP at h; exact h.elim
  | .loop a b p, d + 1, 0, h => by unfold okP at h; exact h.elim
  | .loop a b p, d + 1, l + 1, h => by
    unfold okP at h
    have := mx_le p d l h.2.2.2
    have h1 : 1 ≤ 10 ^ l := ten_pos l
    simp only [mx, Wd.cnt, Nat.add_mul, Nat.pow_succ]
    have e : Wd.cnt p * (10 ^ l * 10) = 10 * (Wd.cnt p * 10 ^ l) := by rw [← Nat.mul_assoc, Nat.mul_comm]
    omega
theorem mxs_le : ∀ (ps : List Pl) (d l : Nat), okPs d l ps → mxs ps ≤ Wd.cnts ps * 10 ^ l
  | [], d, l, h => Nat.zero_le _
  | p :: ps, d, l, h => by
    unfold okPs at h
    have h1 := mx_le p d l h.1
    have h2 := mxs_le ps d l h.2
    simp only [mxs, Wd.cnts, Nat.add_mul]
    omega
end
theorem mxs_take {ps : List Pl} {i : Nat} {p : Pl} (h : ps[i]? = some p) : mxs (ps.take i) + mx p ≤ mxs ps ∧ mxs (ps.take (i + 1)) = mxs (ps.take i) + mx p := by
  induction ps generalizing i with
  | nil => cases h
  | cons q ps ih =>
    match i, h with
    | 0, h => cases h; simp only [List.take_zero, List.take_succ_cons, mxs]; omega
    | i + 1, h =>
      have := ih (i := i) h
      simp only [List.take_succ_cons, mxs]
      omega
theorem mx_at {ps : List Pl} {i : Nat} {p : Pl} (h : ps[i]? = some p) : mx p ≤ mxs ps := by have := (mxs_take h).1; omega
end K02
namespace K02
open PySem PySem.Spec PyProof.Rows L2 Wd
/-- .. and what the program's own text names -/
structure TxtP (K : PySem.W.Frag) (mg : Str → Option Value) : Prop extends Txt K mg where
  k_LONGEST_WORK : ∃ t, mg "LONGEST_WORK" = some (.int 1000 t)
  k_MOST_TIMES : ∃ t, mg "MOST_TIMES" = some (.int 9 t)
  k_LONGEST_ROW : ∃ t, mg "LONGEST_ROW" = some (.int 20 t)
  k_MOST_PLANS : ∃ t, mg "MOST_PLANS" = some (.int 30 t)
  k_MOST_DEEP : ∃ t, mg "MOST_DEEP" = some (.int 6 t)
  k_MOST_LOOPS : ∃ t, mg "MOST_LOOPS" = some (.int 2 t)
section
variable {P : Program} {w : World} {K : PySem.W.Frag} {mg : Str → Option Value} {base : Heap}
theorem g_truT {H : Hp} {p : Addr} {xs : List V} {QB : Bool → Hp → Prop} (h : SqT K H p xs) (q : QB (!xs.isEmpty) H) : ∃ k, TruV K (.ref p) H k ∧ QB k H := ⟨_, .inr (.inl ⟨xs, h, rfl⟩), q⟩
theorem g_truL {H : Hp} {p : Addr} {xs : List V} {QB : Bool → Hp → Prop} (h : SqL K H p xs) (q : QB (!xs.isEmpty) H) : ∃ k, TruV K (.ref p) H k ∧ QB k H := ⟨_, .inl ⟨xs, h, rfl⟩, q⟩
abbrev s_is_number : Stmt := top 12
theorem sc_is_number : FnScope ["value"] ["value"] (C8.fnScope s_is_number) := C8.fnScope_by (by decide +kernel)
def sp_is_number : Sp := fun vs H Q _ => ∃ i : Int, vs = [.int i] ∧ Q (.bl true) H
theorem ok_is_number (T : TxtP K mg) {f : Addr} {fd : FuncData} (D : C8.Def K mg "is_number" s_is_number f fd) (b : Binds K fd ["value"] []) : C8.Cal P w K mg base 1 "is_number" sp_is_number [] := by
  refine C8.cal0 D b .nil sc_is_number (fun vs H Q E h => ?_) fun cdv A outer s H vs Q E hr h => ?_
  · obtain ⟨i, rfl, _⟩ := h; rfl
  · obtain ⟨i, rfl, q⟩ := h
    have nd := sc_is_number.nd
    refine ⟨_, (pss_one (ps_ret (pe_and (pe_callB (r := rIsi K) call_isi (by rfl) T.n_isinstance (by decide +kernel) (pa_cons (pv 0) (pa_cons (pe_bltn (v := .ty "int") (by rfl) T.n_int (by decide +kernel) rfl) pa_nil))) (pe_one (pe_not (pe_callB (r := rIsi K) call_isi (by rfl) T.n_isinstance (by decide +kernel) (pa_cons (pv 0) (pa_cons (pe_bltn (v := .ty "bool") (by rfl) T.n_bool (by decide +kernel) rfl) pa_nil)))))))), ?_⟩
    walk_at "go"
    refine g_isi (.ty "int") (.base (.int i)) (kit_ty (r := true) (by decide +kernel)) ?_
    walk_at "go"
    refine g_isi (.ty "bool") (.base (.int i)) (kit_ty (r := false) (by decide +kernel)) ?_
    walk_at "go"
    exact q

abbrev s_is_range : Stmt := top 13
theorem sc_is_range : FnScope ["least", "most", "limit"] ["least", "most", "limit"] (C8.fnScope s_is_range) := C8.fnScope_by (by decide +kernel)
def sp_is_range : Sp := fun vs H Q _ => ∃ i j k : Int, vs = [.int i, .int j, .int k] ∧ (0 ≤ i ∧ i ≤ j ∧ j ≤ k) ∧ Q (.bl true) H
theorem ok_is_range (T : TxtP K mg) {f : Addr} {fd : FuncData} (D : C8.Def K mg "is_range" s_is_range f fd) (b : Binds K fd ["least", "most", "limit"] []) (g_is_number : C8.Cal P w K mg base 1 "is_number" sp_is_number []) : C8.Cal P w K mg base 2 "is_range" sp_is_range [] := by
  refine C8.cal0 D b .nil sc_is_range (fun vs H Q E h => ?_) fun cdv A outer s H vs Q E hr h => ?_
  · obtain ⟨i, j, k, rfl, _⟩ := h; rfl
  · obtain ⟨i, j, k, rfl, ⟨h1, h2, h3⟩, q⟩ := h
    have nd := sc_is_range.nd
    refine ⟨_, (pss_one (ps_ret (pe_and (C8.pe_c g_is_number hr (by first | decide | exact Nat.le_refl _ | omega) (by rfl) (pa_cons (pv 0) pa_nil)) (pe_and (C8.pe_c g_is_number hr (by first | decide | exact Nat.le_refl _ | omega) (by rfl) (pa_cons (pv 1) pa_nil)) (pe_one (pe_chain3 op_le op_le op_le pe_int (pv 0) (pv 1) (pv 2))))))), ?_⟩
    walk_at "go"
    refine ⟨i, rfl, ?_⟩
    walk_at "go"
    refine ⟨j, rfl, ?_⟩
    walk_at "go"
    refine g_ite (fun _ => ?_) (fun h => absurd h1 h)
    walk_at "go"
    refine g_ite (fun _ => ?_) (fun h => absurd h2 h)
    walk_at "go"
    rw [decide_eq_true h3]
    exact q

abbrev s_has_form : Stmt := top 21
theorem sc_has_form : FnScope ["plan", "word"] ["plan"] (C8.fnScope s_has_form) := C8.fnScope_by (by decide +kernel)
def sp_has_form (K : PySem.W.Frag) : Sp := fun vs H Q _ => ∃ (v : V) (p : Pl) (d l : Nat), vs = [v] ∧ PlA H v p ∧ okP d l p ∧ Q (.bl true) H
theorem ok_has_form (T : TxtP K mg) {f : Addr} {fd : FuncData} (D : C8.Def K mg "has_form" s_has_form f fd) (b : Binds K fd ["plan"] []) (g_is_range : C8.Cal P w K mg base 2 "is_range" sp_is_range []) : C8.Cal P w K mg base 3 "has_form" (sp_has_form K) [] := by
  refine C8.cal0 D b .nil sc_has_form (fun vs H Q E h => ?_) fun cdv A outer s H vs Q E hr h => ?_
  · obtain ⟨v, p, d, l, rfl, _⟩ := h; rfl
  · obtain ⟨v, p, d, l, rfl, hp, ok, q⟩ := h
    have nd := sc_has_form.nd
    obtain ⟨_, c_LONGEST_WORK⟩ := T.k_LONGEST_WORK
    obtain ⟨_, c_MOST_TIMES⟩ := T.k_MOST_TIMES
    obtain ⟨_, c_LONGEST_ROW⟩ := T.k_LONGEST_ROW
    refine ⟨_, (pss_cons (ps_if (PW.pt (pw_or (pt_not (pt_val (pe_callB (r := rIsi K) call_isi (by rfl) T.n_isinstance (by decide +kernel) (pa_cons (pv 0) (pa_cons (pe_bltn (v := .ty "tuple") (by rfl) T.n_tuple (by decide +kernel) rfl) pa_nil))))) (pw_or1 (pt_not (pt_truth (pv 0) (by intro _; rfl)))))) (pss_one (ps_ret pe_bl)) pss_nil)
      (pss_cons (ps_set (i := 1) nd rfl (Or.inl rfl) (pe_ix (r := rIxT K) ix_tup (pv 0) pe_int (fun _ _ => rfl)))
      (pss_cons (ps_if (pt_cmpR op_eq (pv 1) pe_str (nomark _)) (pss_one (ps_ret (pe_cmpR op_eq (pe_callB (r := Wd.rLen K) call_len1 (by rfl) T.n_len PySem.boot_len (pa_cons (pv 0) pa_nil)) pe_int (nomark _)))) pss_nil)
      (pss_cons (ps_if (pt_cmpR op_eq (pv 1) pe_str (nomark _)) (pss_one (ps_ret (pe_and (pe_cmpR op_eq (pe_callB (r := Wd.rLen K) call_len1 (by rfl) T.n_len PySem.boot_len (pa_cons (pv 0) pa_nil)) pe_int (nomark _)) (pe_one (C8.pe_c g_is_range hr (by first | decide | exact Nat.le_refl _ | omega) (by rfl) (pa_cons (pe_ix (r := rIxT K) ix_tup (pv 0) pe_int (fun _ _ => rfl)) (pa_cons (pe_ix (r := rIxT K) ix_tup (pv 0) pe_int (fun _ _ => rfl)) (pa_cons (pe_glob (v := .int 1000) rfl c_LONGEST_WORK ⟨_, rfl⟩) pa_nil)))))))) pss_nil)
      (pss_cons (ps_if (PW.pt (pw_or (pt_cmpR op_eq (pv 1) pe_str (nomark _)) (pw_or1 (pt_cmpR op_eq (pv 1) pe_str (nomark _))))) (pss_one (ps_ret (pe_and (pe_cmpR op_eq (pe_callB (r := Wd.rLen K) call_len1 (by rfl) T.n_len PySem.boot_len (pa_cons (pv 0) pa_nil)) pe_int (nomark _)) (pe_and (pe_callB (r := rIsi K) call_isi (by rfl) T.n_isinstance (by decide +kernel) (pa_cons (pe_ix (r := rIxT K) ix_tup (pv 0) pe_int (fun _ _ => rfl)) (pa_cons (pe_bltn (v := .ty "tuple") (by rfl) T.n_tuple (by decide +kernel) rfl) pa_nil))) (pe_one (pe_chain op_le op_le pe_int (pe_callB (r := Wd.rLen K) call_len1 (by rfl) T.n_len PySem.boot_len (pa_cons (pe_ix (r := rIxT K) ix_tup (pv 0) pe_int (fun _ _ => rfl)) pa_nil)) (pe_glob (v := .int 20) rfl c_LONGEST_ROW ⟨_, rfl⟩))))))) pss_nil)
      (pss_cons (ps_if (pt_cmpR op_eq (pv 1) pe_str (nomark _)) (pss_one (ps_ret (pe_and (pe_cmpR op_eq (pe_callB (r := Wd.rLen K) call_len1 (by rfl) T.n_len PySem.boot_len (pa_cons (pv 0) pa_nil)) pe_int (nomark _)) (pe_one (C8.pe_c g_is_range hr (by first | decide | exact Nat.le_refl _ | omega) (by rfl) (pa_cons (pe_ix (r := rIxT K) ix_tup (pv 0) pe_int (fun _ _ => rfl)) (pa_cons (pe_ix (r := rIxT K) ix_tup (pv 0) pe_int (fun _ _ => rfl)) (pa_cons (pe_glob (v := .int 9) rfl c_MOST_TIMES ⟨_, rfl⟩) pa_nil)))))))) pss_nil)
      (pss_one (ps_ret pe_bl)))))))), ?_⟩
    cases hp with
    | pat ha =>
      walk_at "go"
      refine g_isiB (.ty _) (ty_tup (SqT.of ha)) (b := true) (by decide +kernel) ?_
      walk_at "go"
      refine ⟨_, .inr (.inl ⟨_, SqT.of ha, rfl⟩), ?_⟩
      walk_at "go"
      refine g_ixT (SqT.of ha) rfl ?_
      walk_at "go"
      refine g_len (.inr (SqT.of ha)) ?_
      walk_at "go"
      exact q
    | @work a x y ha =>
      unfold okP at ok
      walk_at "go"
      refine g_isiB (.ty _) (ty_tup (SqT.of ha)) (b := true) (by decide +kernel) ?_
      walk_at "go"
      refine ⟨_, .inr (.inl ⟨_, SqT.of ha, rfl⟩), ?_⟩
      walk_at "go"
      refine g_ixT (SqT.of ha) rfl ?_
      walk_at "go"
      refine g_len (.inr (SqT.of ha)) ?_
      walk_at "go"
      refine g_ixT (SqT.of ha) rfl ?_
      walk_at "go"
      refine g_ixT (SqT.of ha) rfl ?_
      walk_at "go"
      exact ⟨x, y, 1000, rfl, ok, q⟩
    | @row a c vs ps ha hc hps =>
      match d, ok with
      | 0, ok => unfold okP at ok; exact ok.elim
      | d + 1, ok =>
      unfold okP at ok
      have ln := hps.len
      walk_at "go"
      refine g_isiB (.ty _) (ty_tup (SqT.of ha)) (b := true) (by decide +kernel) ?_
      walk_at "go"
      refine ⟨_, .inr (.inl ⟨_, SqT.of ha, rfl⟩), ?_⟩
      walk_at "go"
      refine g_ixT (SqT.of ha) rfl ?_
      walk_at "go"
      refine g_len (.inr (SqT.of ha)) ?_
      walk_at "go"
      refine g_ixT (SqT.of ha) rfl ?_
      walk_at "go"
      refine g_isiB (.ty _) (ty_tup (SqT.of hc)) (b := true) (by decide +kernel) ?_
      walk_at "go"
      refine g_ixT (SqT.of ha) rfl ?_
      walk_at "go"
      refine g_len (.inr (SqT.of hc)) ?_
      walk_at "go"
      refine g_ite (fun _ => ?_) (fun h => absurd (by omega) h)
      walk_at "go"
      rw [decide_eq_true (by omega)]
      exact q
    | @either a c vs ps ha hc hps =>
      match d, ok with
      | 0, ok => unfold okP at ok; exact ok.elim
      | d + 1, ok =>
      unfold okP at ok
      have ln := hps.len
      walk_at "go"
      refine g_isiB (.ty _) (ty_tup (SqT.of ha)) (b := true) (by decide +kernel) ?_
      walk_at "go"
      refine ⟨_, .inr (.inl ⟨_, SqT.of ha, rfl⟩), ?_⟩
      walk_at "go"
      refine g_ixT (SqT.of ha) rfl ?_
      walk_at "go"
      refine g_len (.inr (SqT.of ha)) ?_
      walk_at "go"
      refine g_ixT (SqT.of ha) rfl ?_
      walk_at "go"
      refine g_isiB (.ty _) (ty_tup (SqT.of hc)) (b := true) (by decide +kernel) ?_
      walk_at "go"
      refine g_ixT (SqT.of ha) rfl ?_
      walk_at "go"
      refine g_len (.inr (SqT.of hc)) ?_
      walk_at "go"
      refine g_ite (fun _ => ?_) (fun h => absurd (by omega) h)
      walk_at "go"
      rw [decide_eq_true (by omega)]
      exact q
    | @loop a x y u p ha hu =>
      match d, ok with
      | 0, ok => unfold okP at ok; exact ok.elim
      | d + 1, ok =>
      match l, ok with
      | 0, ok => unfold okP at ok; exact ok.elim
      | l + 1, ok =>
      unfold okP at ok
      walk_at "go"
      refine g_isiB (.ty _) (ty_tup (SqT.of ha)) (b := true) (by decide +kernel) ?_
      walk_at "go"
      refine ⟨_, .inr (.inl ⟨_, SqT.of ha, rfl⟩), ?_⟩
      walk_at "go"
      refine g_ixT (SqT.of ha) rfl ?_
      walk_at "go"
      refine g_len (.inr (SqT.of ha)) ?_
      walk_at "go"
      refine g_ixT (SqT.of ha) rfl ?_
      walk_at "go"
      refine g_ixT (SqT.of ha) rfl ?_
      walk_at "go"
      exact ⟨x, y, 9, rfl, ⟨ok.1, ok.2.1, ok.2.2.1⟩, q⟩
end
end K02
namespace K02
open PySem PySem.Spec PyProof.Rows L2 Wd
theorem take_snoc {α : Type} {l : List α} {i : Nat} {x : α} (h : l[i]? = some x) : l.take (i + 1) = l.take i ++ [x] := by
  rw [List.take_succ, h]; rfl
theorem cnts_app : ∀ ps qs : List Pl, cnts (ps ++ qs) = cnts ps + cnts qs
  | [], qs => by simp only [List.nil_append, Wd.cnts]; omega
  | p :: ps, qs => by have ih := cnts_app ps qs; simp only [List.cons_append, Wd.cnts, ih]; omega
section
variable {P : Program} {w : World} {K : PySem.W.Frag} {mg : Str → Option Value} {base : Heap}
/-- the plans that a plan is made of -/
def kids : Pl → List Pl
  | .row ps => ps
  | .either ps => ps
  | .loop _ _ p => [p]
  | _ => []
abbrev s_plans_in : Stmt := top 22
theorem sc_plans_in : FnScope ["plan"] ["plan"] (C8.fnScope s_plans_in) := C8.fnScope_by (by decide +kernel)
def sp_plans_in (K : PySem.W.Frag) : Sp := fun vs H Q _ => ∃ (v : V) (p : Pl), vs = [v] ∧ PlA H v p ∧ ∀ H' t us, Same H H' → H' t = some (.tup us) → PlAs H' us (kids p) → Q (.ref t) H'
theorem ok_plans_in (T : TxtP K mg) {f : Addr} {fd : FuncData} (D : C8.Def K mg "plans_in" s_plans_in f fd) (b : Binds K fd ["plan"] []) : C8.Cal P w K mg base 1 "plans_in" (sp_plans_in K) [] := by
  refine C8.cal0 D b .nil sc_plans_in (fun vs H Q E h => ?_) fun cdv A outer s H vs Q E hr h => ?_
  · obtain ⟨v, p, rfl, _⟩ := h; rfl
  · obtain ⟨v, p, rfl, hp, q⟩ := h
    have nd := sc_plans_in.nd
    refine ⟨_, (pss_cons (ps_if (PW.pt (pw_or (pt_cmpR op_eq (pe_ix (r := rIxT K) ix_tup (pv 0) pe_int (fun _ _ => rfl)) pe_str (nomark _)) (pw_or1 (pt_cmpR op_eq (pe_ix (r := rIxT K) ix_tup (pv 0) pe_int (fun _ _ => rfl)) pe_str (nomark _))))) (pss_one (ps_ret (pe_ix (r := rIxT K) ix_tup (pv 0) pe_int (fun _ _ => rfl)))) pss_nil)
      (pss_cons (ps_if (pt_cmpR op_eq (pe_ix (r := rIxT K) ix_tup (pv 0) pe_int (fun _ _ => rfl)) pe_str (nomark _)) (pss_one (ps_ret (pe_tup (pa_cons (pe_ix (r := rIxT K) ix_tup (pv 0) pe_int (fun _ _ => rfl)) pa_nil)))) pss_nil)
      (pss_one (ps_ret (pe_tup pa_nil))))), ?_⟩
    cases hp with
    | pat ha =>
      walk_at "go"
      refine g_ixT (SqT.of ha) rfl ?_
      walk_at "go"
      refine g_ixT (SqT.of ha) rfl ?_
      walk_at "go"
      refine g_ixT (SqT.of ha) rfl ?_
      walk_at "go"
      intro t ht
      exact q _ t [] (same_new ht) upd_same .nil
    | work ha =>
      walk_at "go"
      refine g_ixT (SqT.of ha) rfl ?_
      walk_at "go"
      refine g_ixT (SqT.of ha) rfl ?_
      walk_at "go"
      refine g_ixT (SqT.of ha) rfl ?_
      walk_at "go"
      intro t ht
      exact q _ t [] (same_new ht) upd_same .nil
    | row ha hc hps =>
      walk_at "go"
      refine g_ixT (SqT.of ha) rfl ?_
      walk_at "go"
      refine g_ixT (SqT.of ha) rfl ?_
      walk_at "go"
      exact q _ _ _ (fun _ _ h => h) hc hps
    | either ha hc hps =>
      walk_at "go"
      refine g_ixT (SqT.of ha) rfl ?_
      walk_at "go"
      refine g_ixT (SqT.of ha) rfl ?_
      walk_at "go"
      refine g_ixT (SqT.of ha) rfl ?_
      walk_at "go"
      exact q _ _ _ (fun _ _ h => h) hc hps
    | @loop a x y u p ha hu =>
      walk_at "go"
      refine g_ixT (SqT.of ha) rfl ?_
      walk_at "go"
      refine g_ixT (SqT.of ha) rfl ?_
      walk_at "go"
      refine g_ixT (SqT.of ha) rfl ?_
      walk_at "go"
      refine g_ixT (SqT.of ha) rfl ?_
      walk_at "go"
      intro t ht
      exact q _ t _ (same_new ht) upd_same (.cons (PlA_keep (keepT_same (same_new ht)) _ _ hu) .nil)

/-- what waits to be looked at: of each its depth and its loops; n plans in all -/
inductive Wa (H : Hp) : List V → Nat → Prop
  | nil : Wa H [] 0
  | snoc {vs : List V} {n : Nat} {t : Addr} {v : V} {p : Pl} {deep loops : Int} {d l : Nat} : Wa H vs n → H t = some (.tup [v, .int deep, .int loops]) → PlA H v p → okP d l p → deep + d ≤ 6 → loops + l ≤ 2 → Wa H (vs ++ [.ref t]) (n + Wd.cnt p)
theorem Wa.keep {H H' : Hp} (e : KeepT H H') {vs : List V} {n : Nat} (h : Wa H vs n) : Wa H' vs n := by
  induction h with
  | nil => exact .nil
  | snoc _ h1 h2 h3 h4 h5 ih => exact .snoc ih (e _ _ h1) (PlA_keep e _ _ h2) h3 h4 h5
theorem Wa.len {H : Hp} {vs : List V} {n : Nat} (h : Wa H vs n) : vs.length ≤ n := by
  induction h with
  | nil => exact Nat.le_refl _
  | @snoc vs n t v p deep loops d l _ _ _ _ _ _ ih => rw [List.length_append, List.length_singleton]; have := cnt_pos p; omega
theorem cnt_kids : ∀ p : Pl, Wd.cnt p = 1 + Wd.cnts (kids p)
  | .pat => rfl
  | .work _ _ => rfl
  | .row _ => by simp only [Wd.cnt, kids]
  | .either _ => by simp only [Wd.cnt, kids]
  | .loop _ _ _ => by simp only [Wd.cnt, kids, Wd.cnts, Nat.add_zero]
theorem cnts_take {ps : List Pl} {i : Nat} {p : Pl} (h : ps[i]? = some p) : Wd.cnts (ps.take (i + 1)) = Wd.cnts (ps.take i) + Wd.cnt p := by
  rw [take_snoc h, cnts_app]; simp only [Wd.cnts, Nat.add_zero]
theorem Wa.inv {H : Hp} {xs : List V} {n : Nat} (h : Wa H xs n) : (xs = [] ∧ n = 0) ∨ ∃ (vs : List V) (m : Nat) (t : Addr) (v : V) (p : Pl) (deep loops : Int) (d l : Nat), xs = vs ++ [.ref t] ∧ n = m + Wd.cnt p ∧ Wa H vs m ∧ H t = some (.tup [v, .int deep, .int loops]) ∧ PlA H v p ∧ okP d l p ∧ deep + d ≤ 6 ∧ loops + l ≤ 2 := by
  cases h with
  | nil => exact .inl ⟨rfl, rfl⟩
  | snoc h1 h2 h3 h4 h5 h6 => exact .inr ⟨_, _, _, _, _, _, _, _, _, rfl, rfl, h1, h2, h3, h4, h5, h6⟩
theorem cnts_take_le : ∀ (ps : List Pl) (i : Nat), Wd.cnts (ps.take i) ≤ Wd.cnts ps
  | [], i => by rw [List.take_nil]; exact Nat.le_refl _
  | p :: ps, 0 => Nat.zero_le _
  | p :: ps, i + 1 => by have := cnts_take_le ps i; simp only [List.take_succ_cons, Wd.cnts]; omega
def word : Pl → Str
  | .pat => "pat"
  | .work _ _ => "work"
  | .row _ => "row"
  | .either _ => "either"
  | .loop _ _ _ => "loop"
def lp : Pl → Nat
  | .loop _ _ _ => 1
  | _ => 0
theorem word_at {H : Hp} {v : V} {p : Pl} (h : PlA H v p) : ∃ a xs, v = .ref a ∧ H a = some (.tup (.str (word p) :: xs)) := by
  cases h with
  | pat h => exact ⟨_, _, rfl, h⟩
  | work h => exact ⟨_, _, rfl, h⟩
  | row h _ _ => exact ⟨_, _, rfl, h⟩
  | either h _ _ => exact ⟨_, _, rfl, h⟩
  | loop h _ => exact ⟨_, _, rfl, h⟩
theorem lp_yes {p : Pl} (h : word p = "loop") : lp p = 1 := by
  cases p with
  | loop _ _ _ => rfl
  | pat => exact absurd h (by decide)
  | work _ _ => exact absurd h (by decide : ¬ (Str.ofString "work" = Str.ofString "loop"))
  | row _ => exact absurd h (by decide : ¬ (Str.ofString "row" = Str.ofString "loop"))
  | either _ => exact absurd h (by decide : ¬ (Str.ofString "either" = Str.ofString "loop"))
theorem lp_no {p : Pl} (h : ¬ word p = "loop") : lp p = 0 := by
  cases p with
  | loop _ _ _ => exact absurd rfl h
  | pat => rfl
  | work _ _ => rfl
  | row _ => rfl
  | either _ => rfl
theorem kids_ok : ∀ {p : Pl} {d l : Nat}, okP d l p → lp p ≤ l ∧ (kids p = [] ∨ ∃ d', d = d' + 1 ∧ okPs d' (l - lp p) (kids p))
  | .pat, _, _, _ => ⟨Nat.zero_le _, .inl rfl⟩
  | .work _ _, _, _, _ => ⟨Nat.zero_le _, .inl rfl⟩
  | .row _, 0, _, h => by unfold okP at h; exact h.elim
  | .row ps, d + 1, l, h => by unfold okP at h; exact ⟨Nat.zero_le _, .inr ⟨d, rfl, h.2.2⟩⟩
  | .either _, 0, _, h => by unfold okP at h; exact h.elim
  | .either ps, d + 1, l, h => by unfold okP at h; exact ⟨Nat.zero_le _, .inr ⟨d, rfl, h.2.2⟩⟩
  | .loop _ _ _, 0, _, h => by unfold okP at h; exact h.elim
  | .loop _ _ _, d + 1, 0, h => by unfold okP at h; exact h.elim
  | .loop _ _ p, d + 1, l + 1, h => by unfold okP at h; exact ⟨Nat.le_add_left _ _, .inr ⟨d, rfl, by show okPs d l [p]; unfold okPs; exact ⟨h.2.2.2, by unfold okPs; trivial⟩⟩⟩
abbrev s_check_plan : Stmt := top 23
theorem sc_check_plan : FnScope ["plan", "waiting", "many", "part", "deep", "loops", "inner"] ["plan"] (C8.fnScope s_check_plan) := C8.fnScope_by (by decide +kernel)
def sp_check_plan (K : PySem.W.Frag) : Sp := fun vs H Q _ => ∃ (v : V) (p : Pl) (d l : Nat), vs = [v] ∧ PlA H v p ∧ okP d l p ∧ d ≤ 5 ∧ l ≤ 2 ∧ cnt p ≤ 30 ∧ ∀ H', Same H H' → Q .non H'
theorem ok_check_plan (T : TxtP K mg) {f : Addr} {fd : FuncData} (D : C8.Def K mg "check_plan" s_check_plan f fd) (b : Binds K fd ["plan"] []) (g_has_form : C8.Cal P w K mg base 3 "has_form" (sp_has_form K) []) (g_plans_in : C8.Cal P w K mg base 1 "plans_in" (sp_plans_in K) []) :
    C8.Cal P w K mg base 4 "check_plan" (sp_check_plan K) [] := by
  refine C8.cal0 D b .nil sc_check_plan (fun vs H Q E h => ?_) fun cdv A outer s H vs Q E hr h => ?_
  · obtain ⟨v, p, d, l, rfl, _⟩ := h; rfl
  · obtain ⟨v, p0, d, l, rfl, hp, ok, hd, hl, hc, q⟩ := h
    have nd := sc_check_plan.nd
    obtain ⟨_, c_MOST_PLANS⟩ := T.k_MOST_PLANS
    obtain ⟨_, c_MOST_DEEP⟩ := T.k_MOST_DEEP
    obtain ⟨_, c_MOST_LOOPS⟩ := T.k_MOST_LOOPS
    refine ⟨_, (pss_cons (ps_set (i := 1) nd rfl (Or.inl rfl) (pe_lst (pa_cons (pe_tup (pa_cons (pv 0) (pa_cons pe_int (pa_cons pe_int pa_nil)))) pa_nil)))
      (pss_cons (ps_set (i := 2) nd rfl (Or.inl rfl) pe_int)
      (pss_one (ps_while PassesOwn.never (pt_truth (pv 1) (by intro _; rfl)) (pss_cons (ps_asg (pe_bm0K (K := K) rfl PySem.F.plainAttrs_list PySem.F.slot_list_pop PySem.F.type_list_pop mt_pop (pv 1)) (pg_tup rfl (pgs_cons (pg_name (i := 3) nd rfl (Or.inl rfl)) (pgs_cons (pg_name (i := 4) nd rfl (Or.inl rfl)) (pgs_cons (pg_name (i := 5) nd rfl (Or.inl rfl)) pgs_nil)))))
      (pss_cons (ps_aug (i := 2) nd rfl (Or.inl rfl) pe_int ip_add)
      (pss_cons (ps_if (PW.pt (pw_or (pt_cmpR op_gt (pv 2) (pe_glob (v := .int 30) rfl c_MOST_PLANS ⟨_, rfl⟩) (nomark _)) (pw_or (pt_cmpR op_gt (pv 4) (pe_glob (v := .int 6) rfl c_MOST_DEEP ⟨_, rfl⟩) (nomark _)) (pw_or1 (pt_not (pt_val (C8.pe_c g_has_form hr (by first | decide | exact Nat.le_refl _ | omega) (by rfl) (pa_cons (pv 3) pa_nil)))))))) (pss_one ps_never) pss_nil)
      (pss_cons (ps_if (pt_cmpR op_eq (pe_ix (r := rIxT K) ix_tup (pv 3) pe_int (fun _ _ => rfl)) pe_str (nomark _)) (pss_one (ps_aug (i := 5) nd rfl (Or.inl rfl) pe_int ip_add)) pss_nil)
      (pss_cons (ps_if (pt_cmpR op_gt (pv 5) (pe_glob (v := .int 2) rfl c_MOST_LOOPS ⟨_, rfl⟩) (nomark _)) (pss_one ps_never) pss_nil)
      (pss_one (ps_for PassesOwn.never rfl (pi_tup (C8.pe_c g_plans_in hr (by first | decide | exact Nat.le_refl _ | omega) (by rfl) (pa_cons (pv 3) pa_nil))) (pg_name (i := 6) nd rfl (Or.inl rfl)) (pss_one (ps_expr (pe_bmK (K := K) rfl PySem.F.plainAttrs_list PySem.F.slot_list_append PySem.F.type_list_append mt_append (pv 1) (pa_cons (pe_tup (pa_cons (pv 6) (pa_cons (pe_op op_add (pv 4) pe_int) (pa_cons (pv 5) pa_nil)))) pa_nil))))))))))))))), ?_⟩
    walk_at "go"
    intro t ht
    walk_at "go"
    intro W hW
    walk_at "go"
    have hW0 : H W = none := by
      by_cases e : W = t
      · rw [e]; exact ht
      · rwa [upd_ne e] at hW
    obtain ⟨a0, xs0, rfl, _⟩ := word_at hp
    have sm0 : Same H (upd (upd H t (.tup [.ref a0, .int 1, .int 0])) W (.lst [.ref t])) := (same_new ht).trans (same_new hW)
    have hp0 : ∀ H', Same H H' → PlA H' (.ref a0) p0 := fun H' s => PlA_keep (keepT_same s) _ _ hp
    refine w_loop (fun m σ H' => ∃ (xs : List V) (many : Int) (v3 v4 v5 v6 : Option V), σ = [some (.ref a0), some (.ref W), some (.int many), v3, v4, v5, v6] ∧ Same H H' ∧ PlA H' (.ref a0) p0 ∧ H' W = some (.lst xs) ∧ Wa H' xs m ∧ 0 ≤ many ∧ many + m ≤ 30) (0 + Wd.cnt p0) ?_ ?_
    · exact ⟨_, 0, _, _, _, _, rfl, sm0, hp0 _ sm0, upd_same, .snoc (vs := []) .nil (same_new hW _ _ upd_same) (hp0 _ sm0) ok (by omega) (by omega), by decide, by omega⟩
    · rintro m σ H' ⟨xs, many, v3, v4, v5, v6, rfl, sm, hp', hWx, wa, le0, le⟩
      walk_at "go"
      rcases wa.inv with ⟨rfl, rfl⟩ | ⟨vs, n, tt0, v, p, deep, loops, d, l, rfl, rfl, wa, hE, pv, okk0, h6, h7⟩
      · refine ⟨false, .inl ⟨[], SqL.of hWx, rfl⟩, ?_⟩
        walk_at "go"
        exact q _ sm
      refine ⟨true, .inl ⟨_, SqL.of hWx, by cases vs <;> rfl⟩, ?_⟩
      refine L2.iteT ?_
      refine ⟨fun σ' H'' => ∃ m', m' < n + Wd.cnt p ∧ ∃ (xs : List V) (many : Int) (v3 v4 v5 v6 : Option V), σ' = [some (.ref a0), some (.ref W), some (.int many), v3, v4, v5, v6] ∧ Same H H'' ∧ PlA H'' (.ref a0) p0 ∧ H'' W = some (.lst xs) ∧ Wa H'' xs m' ∧ 0 ≤ many ∧ many + m' ≤ 30, fun _ _ h => h, ?_⟩
      obtain ⟨lpl, kok⟩ := kids_ok okk0
      have ck := cnt_kids p
      have len1 := wa.len
      walk_at "go"
      refine g_tyL hWx ?_
      refine g_pop hWx (y := .ref tt0) (by rw [List.length_append, List.length_singleton, Nat.add_sub_cancel, List.getElem?_append_right (Nat.le_refl _), Nat.sub_self]; rfl) ?_
      rw [List.dropLast_concat]
      have k1 : KeepT H' (upd H' W (.lst vs)) := keepT_lst hWx
      have sm1 : Same H (upd H' W (.lst vs)) := Wd.Same.mut sm hW0
      have hW1 : upd H' W (.lst vs) W = some (.lst vs) := upd_same
      have wa1 := wa.keep k1
      have pv := PlA_keep k1 _ _ pv
      refine g_gtup (SqT.of (k1 _ _ hE)) rfl ?_
      walk_at "go"
      refine ⟨_, rfl, ?_⟩
      walk_at "go"
      refine ⟨_, _, rfl, rfl, ?_⟩
      walk_at "go"
      refine g_ite (fun hx => absurd (show 30 < many + 1 from hx) (by omega)) (fun _ => ?_)
      walk_at "go"
      refine g_ite (fun hx => absurd hx (by omega)) (fun _ => ?_)
      walk_at "go"
      refine ⟨v, p, d, l, rfl, pv, okk0, ?_⟩
      walk_at "go"
      obtain ⟨av, xv, rfl, hav⟩ := word_at pv
      refine g_ixT (v := .str (word p)) (SqT.of hav) (at_of (j := 0) rfl rfl) ?_
      walk_at "go"
      generalize hv : V.ref av = v at pv ⊢
      refine g_ite (fun hw => ?_) (fun hw => ?_)
      · have lp1 := lp_yes hw
        walk_at "go"
        refine ⟨_, rfl, ?_⟩
        walk_at "go"
        refine ⟨_, _, rfl, rfl, ?_⟩
        walk_at "go"
        refine g_ite (fun hx => absurd (show 2 < loops + 1 from hx) (by omega)) (fun _ => ?_)
        walk_at "go"
        refine ⟨v, p, rfl, pv, fun H4 tt us s4 hT pk => ?_⟩
        have hW4 := s4 _ _ hW1
        have sm4 : Same H H4 := sm1.trans s4
        refine w_tup (xs := us) (fun i σ H' => ∃ (v6 : Option V) (xs : List V), σ = [some (.ref a0), some (.ref W), some (.int (many + 1)), some v, some (.int deep), some (.int (loops + 1)), v6] ∧ Same H H' ∧ H' tt = some (.tup us) ∧ PlAs H' us (kids p) ∧ H' W = some (.lst xs) ∧ Wa H' xs (n + Wd.cnts ((kids p).take i))) ?_ ?_ ?_ ?_
        · exact ⟨_, vs, rfl, sm4, hT, pk, hW4, by simpa only [List.take_zero, Wd.cnts, Nat.add_zero] using wa1.keep (keepT_same s4)⟩
        · rintro i σ H' _ ⟨v6, xs, _, _, hT', _⟩
          exact SqT.of hT'
        · rintro i u σ H' hu ⟨v6, xs, rfl, sm5, hT5, pk5, hW5, wa5⟩
          obtain ⟨q1, hq, pu⟩ := pk5.at hu
          obtain ⟨d', rfl, okk⟩ := kok.resolve_left (fun e => by rw [e] at hq; cases hq)
          have l5 := wa5.len
          have c5 := cnts_take hq
          have c6 : Wd.cnts ((kids p).take (i + 1)) ≤ Wd.cnts (kids p) := cnts_take_le _ _
          walk_at "go"
          refine g_tyL hW5 ?_
          walk_at "go"
          intro e he
          have s6 := same_new (o := .tup [u, .int (deep + 1), .int (loops + 1)]) he
          walk_at "go"
          refine g_append (s6 _ _ hW5) (by omega) ?_
          have k6 : KeepT H' (upd (upd H' e (.tup [u, .int (deep + 1), .int (loops + 1)])) W (.lst (xs ++ [.ref e]))) := (keepT_same s6).trans (keepT_lst (s6 _ _ hW5))
          walk_at "go"
          refine ⟨_, xs ++ [.ref e], rfl, Wd.Same.mut (sm5.trans s6) hW0, ?_, PlAs_keep k6 _ _ pk5, upd_same, ?_⟩
          · exact k6 _ _ hT5
          · rw [c5, ← Nat.add_assoc]
            exact .snoc (wa5.keep k6) (keepT_lst (s6 _ _ hW5) _ _ upd_same) (PlA_keep k6 _ _ pu) (okPs_at okk hq) (by omega) (by omega)
        · rintro σ H' ⟨v6, xs, rfl, sm5, hT5, pk5, hW5, wa5⟩
          rw [pk5.len, List.take_length] at wa5
          walk_at "go"
          exact ⟨_, by omega, xs, _, _, _, _, _, rfl, sm5, hp0 _ sm5, hW5, wa5, (show 0 ≤ many + 1 by omega), (show many + 1 + ((n + Wd.cnts (kids p) : Nat) : Int) ≤ 30 by omega)⟩
      · have lp0 := lp_no hw
        walk_at "go"
        refine g_ite (fun hx => absurd (show 2 < loops from hx) (by omega)) (fun _ => ?_)
        walk_at "go"
        refine ⟨v, p, rfl, pv, fun H4 tt us s4 hT pk => ?_⟩
        have hW4 := s4 _ _ hW1
        have sm4 : Same H H4 := sm1.trans s4
        refine w_tup (xs := us) (fun i σ H' => ∃ (v6 : Option V) (xs : List V), σ = [some (.ref a0), some (.ref W), some (.int (many + 1)), some v, some (.int deep), some (.int loops), v6] ∧ Same H H' ∧ H' tt = some (.tup us) ∧ PlAs H' us (kids p) ∧ H' W = some (.lst xs) ∧ Wa H' xs (n + Wd.cnts ((kids p).take i))) ?_ ?_ ?_ ?_
        · exact ⟨_, vs, rfl, sm4, hT, pk, hW4, by simpa only [List.take_zero, Wd.cnts, Nat.add_zero] using wa1.keep (keepT_same s4)⟩
        · rintro i σ H' _ ⟨v6, xs, _, _, hT', _⟩
          exact SqT.of hT'
        · rintro i u σ H' hu ⟨v6, xs, rfl, sm5, hT5, pk5, hW5, wa5⟩
          obtain ⟨q1, hq, pu⟩ := pk5.at hu
          obtain ⟨d', rfl, okk⟩ := kok.resolve_left (fun e => by rw [e] at hq; cases hq)
          have l5 := wa5.len
          have c5 := cnts_take hq
          have c6 : Wd.cnts ((kids p).take (i + 1)) ≤ Wd.cnts (kids p) := cnts_take_le _ _
          walk_at "go"
          refine g_tyL hW5 ?_
          walk_at "go"
          intro e he
          have s6 := same_new (o := .tup [u, .int (deep + 1), .int loops]) he
          walk_at "go"
          refine g_append (s6 _ _ hW5) (by omega) ?_
          have k6 : KeepT H' (upd (upd H' e (.tup [u, .int (deep + 1), .int loops])) W (.lst (xs ++ [.ref e]))) := (keepT_same s6).trans (keepT_lst (s6 _ _ hW5))
          walk_at "go"
          refine ⟨_, xs ++ [.ref e], rfl, Wd.Same.mut (sm5.trans s6) hW0, ?_, PlAs_keep k6 _ _ pk5, upd_same, ?_⟩
          · exact k6 _ _ hT5
          · rw [c5, ← Nat.add_assoc]
            exact .snoc (wa5.keep k6) (keepT_lst (s6 _ _ hW5) _ _ upd_same) (PlA_keep k6 _ _ pu) (okPs_at okk hq) (by omega) (by omega)
        · rintro σ H' ⟨v6, xs, rfl, sm5, hT5, pk5, hW5, wa5⟩
          rw [pk5.len, List.take_length] at wa5
          walk_at "go"
          exact ⟨_, by omega, xs, _, _, _, _, _, rfl, sm5, hp0 _ sm5, hW5, wa5, (show 0 ≤ many + 1 by omega), (show many + 1 + ((n + Wd.cnts (kids p) : Nat) : Int) ≤ 30 by omega)⟩
end
end K02
namespace K02
open PySem PySem.Spec PyProof.Rows L2 Wd
/-! ### a run -/
structure TxtR (K : PySem.W.Frag) (CR : Addr) : Prop where
  c : Cls K CR
  nD : NoAttr K CR "delays"
  nU : NoAttr K CR "used"
  nN : NoAttr K CR "now"
  nP : NoAttr K CR "pats"
section
variable {P : Program} {w : World} {K : PySem.W.Frag} {mg : Str → Option Value} {base : Heap} {CR : Addr}
abbrev runF (LA PA : Addr) (u t : Int) : List (Str × V) := [("delays", .ref LA), ("used", .int u), ("now", .int t), ("pats", .ref PA)]
theorem lk_d {LA PA : Addr} {u t : Int} : (runF LA PA u t).lookup ("delays" : Str) = some (.ref LA) := rfl
theorem lk_u {LA PA : Addr} {u t : Int} : (runF LA PA u t).lookup ("used" : Str) = some (.int u) := rfl
theorem lk_n {LA PA : Addr} {u t : Int} : (runF LA PA u t).lookup ("now" : Str) = some (.int t) := rfl
theorem lk_p {LA PA : Addr} {u t : Int} : (runF LA PA u t).lookup ("pats" : Str) = some (.ref PA) := rfl
theorem lk_take {LA PA : Addr} {u t : Int} : (runF LA PA u t).lookup ("take" : Str) = none := rfl
theorem lk_follow {LA PA : Addr} {u t : Int} : (runF LA PA u t).lookup ("follow" : Str) = none := rfl
theorem put_u {LA PA : Addr} {u t z : Int} : putF ("used" : Str) (.int z) (runF LA PA u t) = runF LA PA z t := rfl
theorem put_n {LA PA : Addr} {u t z : Int} : putF ("now" : Str) (.int z) (runF LA PA u t) = runF LA PA u z := rfl
abbrev s_Run_init : Stmt := (C8.clsBody (top 24)).getD 0 (.Pass ⟨0, 0, 0, 0⟩)
abbrev s_Run_take : Stmt := (C8.clsBody (top 24)).getD 1 (.Pass ⟨0, 0, 0, 0⟩)
abbrev s_Run_follow : Stmt := (C8.clsBody (top 24)).getD 2 (.Pass ⟨0, 0, 0, 0⟩)
theorem sc_Run_take : FnScope ["self", "least", "most", "at", "delay"] ["self", "least", "most"] (C8.fnScope s_Run_take) := C8.fnScope_by (by decide +kernel)
def sp_take (K : PySem.W.Frag) (CR : Addr) : Sp := fun vs H Q _ => ∃ (R dx LA PA : Addr) (u : Nat) (t lo hi d : Int) (ds : List Int), vs = [.ref R, .int lo, .int hi] ∧ H R = some (.ins CR dx (runF LA PA u t)) ∧ SqL K H LA (ds.map V.int) ∧ ds[u]? = some d ∧ lo ≤ d ∧ d ≤ hi ∧
  Q (.int d) (upd H R (.ins CR dx (runF LA PA (u + 1 : Nat) t)))
theorem ok_take (T : TxtP K mg) (TR : TxtR K CR) {f : Addr} {fd : FuncData} (me : Meth K CR "take" f) (F : C8.Fun K "take" "Run.take" s_Run_take f fd) (b : Binds K fd ["self", "least", "most"] []) (g_is_number : C8.Cal P w K mg base 1 "is_number" sp_is_number []) : C8.Met P w K mg base 2 CR "take" (sp_take K CR) [] := by
  refine C8.met0 TR.c me F b sc_Run_take (fun vs H Q E h => ?_) fun cdv A outer s H vs Q E hr h => ?_
  · obtain ⟨R, dx, LA, PA, u, t, lo, hi, d, ds, rfl, _⟩ := h; rfl
  · obtain ⟨R, dx, LA, PA, u, t, lo, hi, d, ds, rfl, hR, hL, hd, h1, h2, q⟩ := h
    have nd := sc_Run_take.nd
    have hu : u < ds.length := (List.getElem?_eq_some_iff.mp hd).1
    refine ⟨_, (pss_cons (ps_set (i := 3) nd rfl (Or.inl rfl) (pe_fld (pv 0) rfl))
      (pss_cons (ps_if (pt_cmpR op_eq (pv 3) (pe_callB (r := Wd.rLen K) call_len1 (by rfl) T.n_len PySem.boot_len (pa_cons (pe_fld (pv 0) rfl) pa_nil)) (nomark _)) (pss_one ps_never) pss_nil)
      (pss_cons (ps_set (i := 4) nd rfl (Or.inl rfl) (pe_ix (r := rIxL K) ix_list (pe_fld (pv 0) rfl) (pv 3) (fun _ _ => rfl)))
      (pss_cons (ps_if (PW.pt (pw_or (pt_not (pt_val (C8.pe_c g_is_number hr (by first | decide | exact Nat.le_refl _ | omega) (by rfl) (pa_cons (pv 4) pa_nil)))) (pw_or1 (pt_not (pt_chain op_le op_le (pv 1) (pv 4) (pv 2)))))) (pss_one ps_never) pss_nil)
      (pss_cons (ps_fldaug (pv 0) pe_int in_add)
      (pss_one (ps_ret (pv 4)))))))), ?_⟩
    walk_at "go"
    refine ⟨_, rfl, R, CR, dx, _, _, rfl, hR, TR.c, TR.nU, lk_u, ?_⟩
    walk_at "go"
    refine ⟨_, rfl, R, CR, dx, _, _, rfl, hR, TR.c, TR.nD, lk_d, ?_⟩
    walk_at "go"
    refine g_len (.inl hL) ?_
    walk_at "go"
    rw [List.length_map]
    refine g_ite (fun h => absurd h (by omega)) (fun _ => ?_)
    walk_at "go"
    refine ⟨_, rfl, R, CR, dx, _, _, rfl, hR, TR.c, TR.nD, lk_d, ?_⟩
    walk_at "go"
    refine g_ixL hL (at_of (j := u) (v := .int d) rfl (by rw [List.getElem?_map, hd]; rfl)) ?_
    walk_at "go"
    refine ⟨d, rfl, ?_⟩
    walk_at "go"
    refine g_ite (fun _ => ?_) (fun h => absurd h1 h)
    walk_at "go"
    refine g_iteN (fun h => absurd h2 h) (fun _ => ?_)
    walk_at "go"
    refine ⟨_, rfl, R, CR, dx, _, _, rfl, hR, TR.c, TR.nU, lk_u, ?_⟩
    walk_at "go"
    refine ⟨_, _, rfl, rfl, ?_⟩
    refine ⟨_, _, hR, by show 4 < 1000; decide, ?_⟩
    walk_at "go"
    exact q

end
end K02
namespace K02
open PySem PySem.Spec PyProof.Rows L2 Wd
def Frm2 (S F : Addr) (H H' : Hp) : Prop := ∀ b o, b ≠ S → b ≠ F → H b = some o → H' b = some o
theorem Frm2.refl (S F : Addr) (H : Hp) : Frm2 S F H H := fun _ _ _ _ h => h
theorem Frm2.trans {S F : Addr} {H H1 H2 : Hp} (a : Frm2 S F H H1) (b : Frm2 S F H1 H2) : Frm2 S F H H2 := fun c o n1 n2 h => b c o n1 n2 (a c o n1 n2 h)
theorem Frm2.of1 {S F : Addr} {H H' : Hp} (f : Frm S H H') : Frm2 S F H H' := fun b o n _ h => f b o n h
theorem Frm2.set {S F : Addr} {H : Hp} {o : HO} : Frm2 S F H (upd H F o) := fun b u _ n h => by rw [upd_ne n]; exact h
theorem drop_at {α : Type} : ∀ {l : List α} {i : Nat} {x : α}, l[i]? = some x → l.drop i = x :: l.drop (i + 1)
  | _ :: _, 0, _, e => by cases e; rfl
  | _ :: l, i + 1, _, e => drop_at (l := l) (i := i) e
theorem keepT_of_frm {H H' : Hp} {PA : Addr} {xs : List V} (hP : H PA = some (.lst xs)) (f : Frm PA H H') : KeepT H H' := fun b ys h => f b _ (ne_of h hP (fun z => nomatch z)) h
section
variable {P : Program} {w : World} {K : PySem.W.Frag} {mg : Str → Option Value} {base : Heap} {CR : Addr}
theorem Frm2.setS {S F : Addr} {H : Hp} {o : HO} : Frm2 S F H (upd H S o) := fun b u n _ h => by rw [upd_ne n]; exact h
theorem keep2 {H H' : Hp} {R PA dx : Addr} {fs : List (Str × V)} {xs : List V} (hR : H R = some (.ins CR dx fs)) (hP : H PA = some (.lst xs)) (f : Frm2 R PA H H') : KeepT H H' := fun b ys h => f b _ (ne_of h hR (fun z => nomatch z)) (ne_of h hP (fun z => nomatch z)) h
theorem drop_cons {ds : List Int} {u : Nat} {d0 : Int} {rest : List Int} (e : ds.drop u = d0 :: rest) : ds[u]? = some d0 ∧ rest = ds.drop (u + 1) ∧ u + 1 ≤ ds.length := by
  have h1 : ds[u]? = some d0 := by
    have := congrArg (fun l => l[0]?) e
    simpa using this
  have hl := (List.getElem?_eq_some_iff.mp h1).1
  refine ⟨h1, ?_, hl⟩
  rw [drop_at h1] at e
  exact (List.cons.inj e).2.symm
theorem sc_Run_follow : FnScope ["self", "plan", "word", "part", "which", "times", "turn"] ["self", "plan"] (C8.fnScope s_Run_follow) := C8.fnScope_by (by decide +kernel)
def sp_follow (K : PySem.W.Frag) (CR : Addr) : Nat → Sp
  | 0 => fun _ _ _ _ => False
  | d + 1 => fun vs H Q _ => ∃ (R dx LA PA : Addr) (u : Nat) (t : Int) (v : V) (p : Pl) (l : Nat) (ds ps nq ds' : List Int) (t' : Int), vs = [.ref R, v] ∧ PlA H v p ∧ okP d l p ∧ H R = some (.ins CR dx (runF LA PA u t)) ∧ H LA = some (.lst (ds.map V.int)) ∧ LA ≠ PA ∧ H PA = some (.lst (ps.map V.int)) ∧
    u ≤ ds.length ∧ rn p (ds.drop u) t = some (nq, ds', t') ∧ ps.length + nq.length ≤ 10000000 ∧
    ∀ H' (u' : Nat), Frm2 R PA H H' → u' ≤ ds.length → ds' = ds.drop u' → H' R = some (.ins CR dx (runF LA PA u' t')) → H' PA = some (.lst ((ps ++ nq).map V.int)) → Q .non H'
theorem follow_step (T : TxtP K mg) (TR : TxtR K CR) {d : Nat} {f : Addr} {fd : FuncData} (me : Meth K CR "follow" f) (F : C8.Fun K "follow" "Run.follow" s_Run_follow f fd) (b : Binds K fd ["self", "plan"] []) (m_take : C8.Met P w K mg base 2 CR "take" (sp_take K CR) [])
    (m_follow : C8.Met P w K mg base (d + 2) CR "follow" (sp_follow K CR d) []) : C8.Met P w K mg base (d + 3) CR "follow" (sp_follow K CR (d + 1)) [] := by
  refine C8.met0 TR.c me F b sc_Run_follow (fun vs H Q E h => ?_) fun cdv A outer s H vs Q E hr h => ?_
  · obtain ⟨R, dx, LA, PA, u, t, v, p, l, ds, ps, nq, ds', t', rfl, _⟩ := h; rfl
  · obtain ⟨R, dx, LA, PA, u, t, v, p, l, ds, ps, nq, ds', t', rfl, hp, ok, hR, hL, ne, hP, hu, r, sz, q⟩ := h
    have nd := sc_Run_follow.nd
    have nRP : R ≠ PA := ne_of hR hP (fun z => nomatch z)
    have nLR : LA ≠ R := ne_of hL hR (fun z => nomatch z)
    have hr : Room (d + 2) _ := hr
    refine ⟨_, (pss_cons (ps_set (i := 2) nd rfl (Or.inl rfl) (pe_ix (r := rIxT K) ix_tup (pv 1) pe_int (fun _ _ => rfl)))
      (pss_one (ps_if (pt_cmpR op_eq (pv 2) pe_str (nomark _)) (pss_one (ps_expr (pe_bmK (K := K) rfl PySem.F.plainAttrs_list PySem.F.slot_list_append PySem.F.type_list_append mt_append (pe_fld (pv 0) rfl) (pa_cons (pe_fld (pv 0) rfl) pa_nil)))) (pss_one (ps_if (pt_cmpR op_eq (pv 2) pe_str (nomark _)) (pss_one (ps_fldaug (pv 0) (C8.pe_mt m_take hr (by first | decide | exact Nat.le_refl _ | omega) (pv 0) (pa_cons (pe_ix (r := rIxT K) ix_tup (pv 1) pe_int (fun _ _ => rfl)) (pa_cons (pe_ix (r := rIxT K) ix_tup (pv 1) pe_int (fun _ _ => rfl)) pa_nil))) in_add)) (pss_one (ps_if (pt_cmpR op_eq (pv 2) pe_str (nomark _)) (pss_one (ps_for PassesOwn.never rfl (pi_tup (pe_ix (r := rIxT K) ix_tup (pv 1) pe_int (fun _ _ => rfl))) (pg_name (i := 3) nd rfl (Or.inl rfl)) (pss_one (ps_expr (C8.pe_mt m_follow hr (by first | decide | exact Nat.le_refl _ | omega) (pv 0) (pa_cons (pv 3) pa_nil)))))) (pss_one (ps_if (pt_cmpR op_eq (pv 2) pe_str (nomark _)) (pss_cons (ps_set (i := 4) nd rfl (Or.inl rfl) (C8.pe_mt m_take hr (by first | decide | exact Nat.le_refl _ | omega) (pv 0) (pa_cons pe_int (pa_cons (pe_op op_sub (pe_callB (r := Wd.rLen K) call_len1 (by rfl) T.n_len PySem.boot_len (pa_cons (pe_ix (r := rIxT K) ix_tup (pv 1) pe_int (fun _ _ => rfl)) pa_nil)) pe_int) pa_nil))))
      (pss_one (ps_expr (C8.pe_mt m_follow hr (by first | decide | exact Nat.le_refl _ | omega) (pv 0) (pa_cons (pe_ix (r := rIxT K) ix_tup (pe_ix (r := rIxT K) ix_tup (pv 1) pe_int (fun _ _ => rfl)) (pv 4) (fun _ _ => rfl)) pa_nil))))) (pss_cons (ps_set (i := 5) nd rfl (Or.inl rfl) (C8.pe_mt m_take hr (by first | decide | exact Nat.le_refl _ | omega) (pv 0) (pa_cons (pe_ix (r := rIxT K) ix_tup (pv 1) pe_int (fun _ _ => rfl)) (pa_cons (pe_ix (r := rIxT K) ix_tup (pv 1) pe_int (fun _ _ => rfl)) pa_nil))))
      (pss_one (ps_for PassesOwn.never rfl (pi_range1 rfl T.n_range (pa_cons (pv 5) pa_nil)) (pg_name (i := 6) nd rfl (Or.inl rfl)) (pss_one (ps_expr (C8.pe_mt m_follow hr (by first | decide | exact Nat.le_refl _ | omega) (pv 0) (pa_cons (pe_ix (r := rIxT K) ix_tup (pv 1) pe_int (fun _ _ => rfl)) pa_nil)))))))))))))))), ?_⟩
    cases hp with
    | pat ha =>
      walk_at "go"
      refine g_ixT (SqT.of ha) rfl ?_
      walk_at "go"
      refine ⟨_, rfl, R, CR, dx, _, _, rfl, hR, TR.c, TR.nP, lk_p, ?_⟩
      refine g_tyL hP ?_
      walk_at "go"
      refine ⟨_, rfl, R, CR, dx, _, _, rfl, hR, TR.c, TR.nN, lk_n, ?_⟩
      walk_at "go"
      simp only [rn, Option.some.injEq, Prod.mk.injEq] at r
      obtain ⟨rfl, rfl, rfl⟩ := r
      have lp : ps.length < 16000000 := by omega
      refine ⟨_, _, _, rfl, rfl, hP, by rw [List.length_map]; exact Nat.lt_of_lt_of_le lp (by decide), ?_⟩
      walk_at "go"
      exact q _ u .set hu rfl (by rw [upd_ne nRP]; exact hR) (by rw [upd_same, List.map_append]; rfl)
    | @work a x y ha =>
      cases e : ds.drop u with
      | nil => rw [e] at r; simp only [rn] at r; cases r
      | cons d0 rest =>
      rw [e] at r
      obtain ⟨hd, er, hu1⟩ := drop_cons e
      simp only [rn] at r
      split at r
      case isFalse => cases r
      rename_i bd
      simp only [Option.some.injEq, Prod.mk.injEq] at r
      obtain ⟨rfl, rfl, rfl⟩ := r
      walk_at "go"
      refine g_ixT (SqT.of ha) rfl ?_
      walk_at "go"
      refine ⟨_, rfl, R, CR, dx, _, _, rfl, hR, TR.c, TR.nN, lk_n, ?_⟩
      refine ⟨_, rfl, R, dx, _, rfl, hR, lk_take, ?_⟩
      walk_at "go"
      refine g_ixT (SqT.of ha) rfl ?_
      walk_at "go"
      refine g_ixT (SqT.of ha) rfl ?_
      walk_at "go"
      refine ⟨R, dx, LA, PA, u, t, x, y, d0, ds, rfl, hR, SqL.of hL, hd, bd.1, bd.2, ?_⟩
      refine ⟨_, _, rfl, rfl, dx, _, upd_same, by show 4 < 1000; decide, ?_⟩
      walk_at "go"
      exact q _ (u + 1) (Frm2.setS.trans .setS) hu1 er upd_same (by rw [upd_ne nRP.symm, upd_ne nRP.symm, List.append_nil]; exact hP)
    | @row a c vs ps' ha hc hps =>
      match d, ok, m_follow with
      | 0, ok, _ => unfold okP at ok; exact ok.elim
      | d + 1, ok, m_follow =>
      unfold okP at ok
      have ln := hps.len
      simp only [rn] at r
      walk_at "go"
      refine g_ixT (SqT.of ha) rfl ?_
      walk_at "go"
      refine g_ixT (SqT.of ha) rfl ?_
      walk_at "go"
      refine w_tup (xs := vs) (fun i σ H' => ∃ (v3 v4 v5 v6 : Option V) (u1 : Nat) (np : List Int) (t1 : Int), σ = [some (.ref R), some (.ref a), some (.str "row"), v3, v4, v5, v6] ∧ Frm2 R PA H H' ∧ u1 ≤ ds.length ∧ H' R = some (.ins CR dx (runF LA PA u1 t1)) ∧ H' PA = some (.lst ((ps ++ np).map V.int)) ∧
        ∃ np2, rns (ps'.drop i) (ds.drop u1) t1 = some (np2, ds', t') ∧ np ++ np2 = nq) ?_ ?_ ?_ ?_
      · exact ⟨_, _, _, _, u, [], t, rfl, .refl _ _ _, hu, hR, by rw [List.append_nil]; exact hP, nq, by rw [List.drop_zero]; exact r, rfl⟩
      · rintro i σ H' _ ⟨v3, v4, v5, v6, u1, np, t1, _, f, _⟩
        exact SqT.of (keep2 hR hP f _ _ hc)
      · rintro i v σ H' hv ⟨v3, v4, v5, v6, u1, np, t1, rfl, f, hu1, hR1, hP1, np2, r2, e2⟩
        obtain ⟨q1, hq, pv⟩ := hps.at hv
        rw [drop_at hq, rns] at r2
        obtain ⟨a2, d2, t2, b2, g1, g2, rfl⟩ := seqR_inv r2
        have le2 : (ps ++ np).length + a2.length ≤ 10000000 := by
          rw [← e2, List.length_append, List.length_append] at sz
          rw [List.length_append]
          omega
        walk_at "go"
        refine ⟨_, rfl, R, dx, _, rfl, hR1, lk_follow, ?_⟩
        walk_at "go"
        refine ⟨R, dx, LA, PA, u1, t1, v, q1, _, ds, ps ++ np, a2, d2, t2, rfl, PlA_keep (keep2 hR hP f) _ _ pv, okPs_at ok.2.2 hq, hR1, f _ _ nLR ne hL, ne, hP1, hu1, g1, le2, fun H2 u2 f2 hu2 eu2 hR2 hP2 => ?_⟩
        subst eu2
        walk_at "go"
        exact ⟨_, _, _, _, u2, np ++ a2, t2, rfl, f.trans f2, hu2, hR2, by rw [← List.append_assoc]; exact hP2, b2, g2, by rw [List.append_assoc]; exact e2⟩
      · rintro σ H' ⟨v3, v4, v5, v6, u1, np, t1, rfl, f, hu1, hR1, hP1, np2, r2, e2⟩
        rw [ln, List.drop_length, rns] at r2
        simp only [Option.some.injEq, Prod.mk.injEq] at r2
        obtain ⟨rfl, rfl, rfl⟩ := r2
        rw [List.append_nil] at e2
        subst e2
        walk_at "go"
        exact q _ u1 f hu1 rfl hR1 hP1
    | @either a c vs ps' ha hc hps =>
      match d, ok, m_follow with
      | 0, ok, _ => unfold okP at ok; exact ok.elim
      | d + 1, ok, m_follow =>
      unfold okP at ok
      have ln := hps.len
      cases e : ds.drop u with
      | nil => rw [e] at r; simp only [rn] at r; cases r
      | cons d0 rest =>
      rw [e] at r
      obtain ⟨hd, er, hu1⟩ := drop_cons e
      simp only [rn] at r
      split at r
      case isFalse => cases r
      rename_i d00
      obtain ⟨p, hpp, r⟩ := rnAt_some r
      have hi : d0.toNat < vs.length := by rw [ln]; exact (List.getElem?_eq_some_iff.mp hpp).1
      have hv0 : vs[d0.toNat]? = some vs[d0.toNat] := List.getElem?_eq_getElem hi
      obtain ⟨p', hp', pv⟩ := hps.at hv0
      cases hpp.symm.trans hp'
      walk_at "go"
      refine g_ixT (SqT.of ha) rfl ?_
      walk_at "go"
      refine ⟨_, rfl, R, dx, _, rfl, hR, lk_take, ?_⟩
      walk_at "go"
      refine g_ixT (SqT.of ha) rfl ?_
      walk_at "go"
      refine g_len (.inr (SqT.of hc)) ?_
      walk_at "go"
      refine ⟨R, dx, LA, PA, u, t, 0, _, d0, ds, rfl, hR, SqL.of hL, hd, d00, by omega, ?_⟩
      have f1 : Frm2 R PA H (upd H R (.ins CR dx (runF LA PA (u + 1 : Nat) t))) := .setS
      have k1 := keep2 hR hP f1
      walk_at "go"
      refine ⟨_, rfl, R, dx, _, rfl, upd_same, lk_follow, ?_⟩
      walk_at "go"
      refine g_ixT (SqT.of (k1 _ _ ha)) rfl ?_
      walk_at "go"
      refine g_ixT (v := vs[d0.toNat]) (SqT.of (k1 _ _ hc)) (at_of (j := d0.toNat) (by omega) hv0) ?_
      walk_at "go"
      refine ⟨R, dx, LA, PA, u + 1, t, _, p, _, ds, ps, nq, ds', t', rfl, PlA_keep k1 _ _ pv, okPs_at ok.2.2 hpp, upd_same, f1 _ _ nLR ne hL, ne, by rw [upd_ne nRP.symm]; exact hP, hu1, by rw [← er]; exact r, sz, fun H2 u2 f2 hu2 eu2 hR2 hP2 => ?_⟩
      walk_at "go"
      exact q _ u2 (f1.trans f2) hu2 eu2 hR2 hP2
    | @loop a x y w0 p ha hw =>
      match d, ok, m_follow with
      | 0, ok, _ => unfold okP at ok; exact ok.elim
      | d + 1, ok, m_follow =>
      match l, ok with
      | 0, ok => unfold okP at ok; exact ok.elim
      | l + 1, ok =>
      unfold okP at ok
      cases e : ds.drop u with
      | nil => rw [e] at r; simp only [rn] at r; cases r
      | cons d0 rest =>
      rw [e] at r
      obtain ⟨hd, er, hu1⟩ := drop_cons e
      simp only [rn] at r
      split at r
      case isFalse => cases r
      rename_i bd
      rw [iter_rep] at r
      walk_at "go"
      refine g_ixT (SqT.of ha) rfl ?_
      walk_at "go"
      refine ⟨_, rfl, R, dx, _, rfl, hR, lk_take, ?_⟩
      walk_at "go"
      refine g_ixT (SqT.of ha) rfl ?_
      walk_at "go"
      refine g_ixT (SqT.of ha) rfl ?_
      walk_at "go"
      refine ⟨R, dx, LA, PA, u, t, x, y, d0, ds, rfl, hR, SqL.of hL, hd, bd.1, bd.2, ?_⟩
      have f1 : Frm2 R PA H (upd H R (.ins CR dx (runF LA PA (u + 1 : Nat) t))) := .setS
      walk_at "go"
      refine w_range (by omega) (by omega) (fun i σ H' => ∃ (v3 v4 v6 : Option V) (u1 : Nat) (np : List Int) (t1 : Int), σ = [some (.ref R), some (.ref a), some (.str "loop"), v3, v4, some (.int d0), v6] ∧ Frm2 R PA H H' ∧ u1 ≤ ds.length ∧ H' R = some (.ins CR dx (runF LA PA u1 t1)) ∧ H' PA = some (.lst ((ps ++ np).map V.int)) ∧
        ∃ np2, rns (List.replicate (d0.toNat - i) p) (ds.drop u1) t1 = some (np2, ds', t') ∧ np ++ np2 = nq) ?_ ?_ ?_
      · exact ⟨_, _, _, u + 1, [], t, rfl, f1, hu1, upd_same, by rw [upd_ne nRP.symm, List.append_nil]; exact hP, nq, by rw [Nat.sub_zero, ← er]; exact r, rfl⟩
      · rintro i σ H' hi ⟨v3, v4, v6, u1, np, t1, rfl, f, hu2, hR1, hP1, np2, r2, e2⟩
        have es : d0.toNat - i = (d0.toNat - (i + 1)) + 1 := by omega
        rw [es, List.replicate_succ, rns] at r2
        obtain ⟨a2, d2, t2, b2, g1, g2, rfl⟩ := seqR_inv r2
        have le2 : (ps ++ np).length + a2.length ≤ 10000000 := by
          rw [← e2, List.length_append, List.length_append] at sz
          rw [List.length_append]
          omega
        walk_at "go"
        refine ⟨_, rfl, R, dx, _, rfl, hR1, lk_follow, ?_⟩
        walk_at "go"
        refine g_ixT (SqT.of (keep2 hR hP f _ _ ha)) rfl ?_
        walk_at "go"
        refine ⟨R, dx, LA, PA, u1, t1, _, p, _, ds, ps ++ np, a2, d2, t2, rfl, PlA_keep (keep2 hR hP f) _ _ hw, ok.2.2.2, hR1, f _ _ nLR ne hL, ne, hP1, hu2, g1, le2, fun H2 u3 f2 hu3 eu2 hR2 hP2 => ?_⟩
        subst eu2
        walk_at "go"
        exact ⟨_, _, _, u3, np ++ a2, t2, rfl, f.trans f2, hu3, hR2, by rw [← List.append_assoc]; exact hP2, b2, g2, by rw [List.append_assoc]; exact e2⟩
      · rintro σ H' ⟨v3, v4, v6, u1, np, t1, rfl, f, hu2, hR1, hP1, np2, r2, e2⟩
        rw [Nat.sub_self, List.replicate_zero, rns] at r2
        simp only [Option.some.injEq, Prod.mk.injEq] at r2
        obtain ⟨rfl, rfl, rfl⟩ := r2
        rw [List.append_nil] at e2
        subst e2
        walk_at "go"
        exact q _ u1 f hu2 rfl hR1 hP1
theorem ok_follow (T : TxtP K mg) (TR : TxtR K CR) {f : Addr} {fd : FuncData} (me : Meth K CR "follow" f) (F : C8.Fun K "follow" "Run.follow" s_Run_follow f fd) (b : Binds K fd ["self", "plan"] []) (m_take : C8.Met P w K mg base 2 CR "take" (sp_take K CR) []) : ∀ n : Nat, C8.Met P w K mg base (n + 2) CR "follow" (sp_follow K CR n) []
  | 0 => ⟨f, fd, ["self", "plan"], [], TR.c, me, ⟨fun _ _ _ _ h => h.elim, fun _ _ _ _ _ _ _ _ _ _ _ _ _ h => h.elim⟩, b, .nil⟩
  | n + 1 => follow_step T TR me F b m_take (ok_follow T TR me F b m_take n)
end
end K02
namespace K02
open PySem PySem.Spec PyProof.Rows L2 Wd
section
variable {P : Program} {w : World} {K : PySem.W.Frag} {mg : Str → Option Value} {base : Heap} {CR : Addr}
theorem sc_Run_init : FnScope ["self", "delays"] ["self", "delays"] (C8.fnScope s_Run_init) := C8.fnScope_by (by decide +kernel)
def sp_init (CR : Addr) : Sp := fun vs H Q _ => ∃ (R dx LA : Addr), vs = [.ref R, .ref LA] ∧ H R = some (.ins CR dx []) ∧ ∀ H' PA, Frm R H H' → H PA = none → H' R = some (.ins CR dx (runF LA PA 0 0)) → H' PA = some (.lst []) → Q .non H'
theorem ok_init (T : TxtP K mg) (TR : TxtR K CR) {f : Addr} {fd : FuncData} (M : Mk K CR f) (hm : mg "Run" = some (.ref CR)) (F : C8.Fun K "__init__" "Run.__init__" s_Run_init f fd) (b : Binds K fd ["self", "delays"] []) : C8.Mak P w K mg base 1 "Run" CR (sp_init CR) [] := by
  refine C8.mak0 M hm F b .nil sc_Run_init (fun vs H Q E h => ?_) fun cdv A outer s H vs Q E hr h => ?_
  · obtain ⟨R, dx, LA, rfl, _⟩ := h; rfl
  · obtain ⟨R, dx, LA, rfl, hR, q⟩ := h
    have nd := sc_Run_init.nd
    refine ⟨_, (pss_cons (ps_fld (pv 0) (pv 1) rfl)
      (pss_cons (ps_fld (pv 0) pe_int rfl)
      (pss_cons (ps_fld (pv 0) pe_int rfl)
      (pss_one (ps_fld (pv 0) (pe_lst pa_nil) rfl))))), ?_⟩
    walk_at "go"
    refine ⟨_, rfl, _, rfl, R, CR, dx, _, rfl, hR, TR.c, TR.nD, by decide, ?_⟩
    walk_at "go"
    refine ⟨_, rfl, R, CR, dx, _, rfl, upd_same, TR.c, TR.nU, by show 1 < 1000; decide, ?_⟩
    walk_at "go"
    refine ⟨_, rfl, R, CR, dx, _, rfl, upd_same, TR.c, TR.nN, by show 2 < 1000; decide, ?_⟩
    walk_at "go"
    refine ⟨Nat.zero_le _, fun PA hPA => ⟨_, rfl, R, CR, dx, _, rfl, same_new hPA _ _ upd_same, TR.c, TR.nP, by show 3 < 1000; decide, ?_⟩⟩
    have f3 : Frm R H (upd (upd (upd H R (HO.ins CR dx (putF ("delays" : Str) (V.ref LA) []))) R (HO.ins CR dx (putF ("used" : Str) (V.int 0) (putF ("delays" : Str) (V.ref LA) [])))) R
      (HO.ins CR dx (putF ("now" : Str) (V.int 0) (putF ("used" : Str) (V.int 0) (putF ("delays" : Str) (V.ref LA) []))))) := (Frm.set.trans .set).trans .set
    have nPR : PA ≠ R := fun z => by rw [z, upd_same] at hPA; cases hPA
    walk_at "go"
    exact q _ PA ((f3.trans (.new hPA)).trans .set) (f3.back nPR hPA) upd_same (by rw [upd_ne nPR, upd_same])

end
end K02
namespace K02
open PySem PySem.Spec PyProof.Rows L2 Wd
local macro_rules | `(tactic| walk_at "gs") => `(tactic| repeat (first
  | with_reducible refine Wd.g_seq ?_
  | ((with_reducible show L2.Ends.nx _ _ _); (with_reducible refine Wd.g_nx ?_))
  | with_reducible refine Wd.g_asg ?_
  | ((with_reducible refine' Wd.g_var ?h1 ?_); (case h1 => exact rfl))
  | with_reducible refine Wd.g_c ?_
  | with_reducible refine Wd.g_op ?_
  | with_reducible refine Wd.g_un ?_
  | with_reducible refine Wd.g_I0 ?_
  | with_reducible refine Wd.g_U ?_
  | with_reducible refine Wd.g_eqI ?_
  | with_reducible refine Wd.g_neI ?_
  | with_reducible refine Wd.g_eqS ?_
  | with_reducible refine Wd.g_neS ?_
  | with_reducible refine Wd.g_eqB ?_
  | with_reducible refine Wd.g_neB ?_
  | with_reducible refine Wd.g_isN ?_
  | with_reducible refine Wd.g_notN ?_
  | with_reducible refine Wd.g_lc ?_
  | with_reducible refine Wd.g_yes ?_
  | with_reducible refine Wd.g_test ?_
  | with_reducible refine Wd.g_tB ?_
  | with_reducible refine Wd.g_bl ?_
  | with_reducible refine Wd.g_blI ?_
  | with_reducible refine Wd.g_and ?_
  | with_reducible refine Wd.g_or ?_
  | with_reducible refine Wd.g_not ?_
  | with_reducible refine Wd.g_andV ?_
  | with_reducible refine Wd.g_orV ?_
  | with_reducible refine Wd.g_notV ?_
  | with_reducible refine Wd.g_if ?_
  | with_reducible refine Wd.g_chain ?_
  | with_reducible refine Wd.g_chain3 ?_
  | with_reducible refine Wd.g_nil ?_
  | with_reducible refine Wd.g_cons ?_
  | with_reducible refine Wd.g_tup ?_
  | with_reducible refine Wd.g_lst ?_
  | with_reducible refine Wd.g_CB ?_
  | with_reducible refine Wd.g_call ?_
  | with_reducible refine Wd.g_callS ?_
  | with_reducible refine Wd.g_bm ?_
  | with_reducible refine Wd.g_bm0 ?_
  | with_reducible refine Wd.g_sl ?_
  | with_reducible refine Wd.g_part ?_
  | with_reducible refine Wd.g_part1 ?_
  | with_reducible refine Wd.g_noPart ?_
  | with_reducible refine Wd.g_next ?_
  | with_reducible refine Wd.g_name ?_
  | with_reducible refine Wd.g_sub ?_
  | with_reducible refine Wd.g_gnil ?_
  | with_reducible refine Wd.g_gcons ?_
  | with_reducible refine Wd.g_drop ?_
  | with_reducible refine Wd.g_ret ?_
  | with_reducible refine Wd.g_retN ?_
  | with_reducible refine Wd.g_brk ?_
  | with_reducible refine Wd.g_cont ?_
  | ((with_reducible show L2.Ends.bk _ _ _); (with_reducible refine Wd.g_bk ?_))
  | ((with_reducible show L2.Ends.ct _ _ _); (with_reducible refine Wd.g_ct ?_))
  | ((with_reducible show L2.Ends.rt _ _ _); (with_reducible refine Wd.g_rt ?_))
  | with_reducible refine Wd.g_for ?_
  | with_reducible refine Wd.g_rng1 ?_
  | with_reducible refine Wd.g_rng2 ?_
  | with_reducible refine Wd.g_iList ?_
  | with_reducible refine Wd.g_iTup ?_
  | ((with_reducible refine Wd.g_fit ?h1 ?_); (case h1 => exact rfl))
  | with_reducible refine Wd.g_max2 ?_
  | with_reducible refine Wd.g_min2 ?_
  | with_reducible refine Wd.g_int1B ?_
  | with_reducible refine L2.iteT ?_
  | with_reducible refine L2.iteF ?_
  | ((with_reducible refine Wd.g_itT ?h1 ?_); (case h1 => exact rfl))
  | ((with_reducible refine Wd.g_itF ?h1 ?_); (case h1 => exact rfl))))
theorem bit_eq (z g : Nat) : decide ((((z >>> g) &&& 1 : Nat) : Int) = 1) = z.testBit g := by
  have e : (z >>> g) &&& 1 = (z >>> g) % 2 := Nat.and_one_is_mod _
  have t : z.testBit g = decide ((z >>> g) % 2 = 1) := by
    rw [Nat.testBit, Nat.and_comm, Nat.and_one_is_mod]
    have := Nat.mod_two_eq_zero_or_one (z >>> g)
    rcases this with h | h <;> rw [h] <;> rfl
  rw [e, t]
  exact decide_eq_decide.mpr ⟨fun h => by omega, fun h => by omega⟩
theorem spread_below {z d y b : Nat} (h : Spread z d y) (hb : Below b z) : Below (b + d) y := fun i hi => by
  obtain ⟨k, h1, h2, h3⟩ := (h i).mp hi
  have := hb _ h3
  omega
structure TxtJ (K : PySem.W.Frag) (mg : Str → Option Value) : Prop extends TxtP K mg where
  n_min : mg "min" = none
  n_reversed : mg "reversed" = none
section
variable {P : Program} {w : World} {K : PySem.W.Frag} {mg : Str → Option Value} {base : Heap}
abbrev s_holds : Stmt := top 31
theorem sc_holds : FnScope ["gaps", "gap"] ["gaps", "gap"] (C8.fnScope s_holds) := C8.fnScope_by (by decide +kernel)
def sp_holds : Sp := fun vs H Q _ => ∃ z g : Nat, vs = [.int z, .int g] ∧ Q (.bl (z.testBit g)) H
theorem ok_holds {f : Addr} {fd : FuncData} (D : C8.Def K mg "holds" s_holds f fd) (b : Binds K fd ["gaps", "gap"] []) : C8.Cal P w K mg base 1 "holds" sp_holds [] := by
  refine C8.cal0 D b .nil sc_holds (fun vs H Q E h => ?_) fun cdv A outer s H vs Q E hr h => ?_
  · obtain ⟨z, g, rfl, _⟩ := h; rfl
  · obtain ⟨z, g, rfl, q⟩ := h
    have nd := sc_holds.nd
    refine ⟨_, (pss_one (ps_ret (pe_cmpR op_eq (pe_op (r := rAndB) op_andB (pe_op (r := rShrB) op_shrB (pv 0) (pv 1)) pe_int) pe_int (nomark _)))), ?_⟩
    walk_at "go"
    refine ⟨z, g, rfl, rfl, ?_⟩
    walk_at "go"
    refine ⟨z >>> g, 1, rfl, rfl, ?_⟩
    walk_at "go"
    rw [bit_eq]
    exact q
abbrev s_spread : Stmt := top 32
theorem sc_spread : FnScope ["gaps", "most", "done", "step"] ["gaps", "most"] (C8.fnScope s_spread) := C8.fnScope_by (by decide +kernel)
def sp_spread : Sp := fun vs H Q _ => ∃ z m b : Nat, vs = [.int z, .int m] ∧ Below b z ∧ b ≤ 5000 ∧ m ≤ 2000 ∧ ∀ s, Spread z m s → Below (b + m) s → Q (.int (s : Nat)) H
theorem ok_spread (T : TxtJ K mg) {f : Addr} {fd : FuncData} (D : C8.Def K mg "spread" s_spread f fd) (b : Binds K fd ["gaps", "most"] []) : C8.Cal P w K mg base 1 "spread" sp_spread [] := by
  refine C8.cal0 D b .nil sc_spread (fun vs H Q E h => ?_) fun cdv A outer s H vs Q E hr h => ?_
  · obtain ⟨z, m, b, rfl, _⟩ := h; rfl
  · obtain ⟨z, m, b, rfl, hb, b5, m2, q⟩ := h
    have nd := sc_spread.nd
    refine ⟨_, (pss_cons (ps_set (i := 2) nd rfl (Or.inl rfl) pe_int)
      (pss_cons (ps_while PassesOwn.never (pt_cmpR op_lt (pv 2) (pv 1) (nomark _)) (pss_cons (ps_set (i := 3) nd rfl (Or.inl rfl) (pe_callB (call_min1 rfl) (by rfl) T.n_min (by decide +kernel) (pa_cons (pe_op op_add (pv 2) pe_int) (pa_cons (pe_op op_sub (pv 1) (pv 2)) pa_nil))))
      (pss_cons (ps_set (i := 0) nd rfl (Or.inl rfl) (pe_op (r := rOrB) op_orB (pv 0) (pe_op (r := rShlB) op_shlB (pv 0) (pv 3))))
      (pss_one (ps_aug (i := 2) nd rfl (Or.inl rfl) (pv 3) ip_add)))))
      (pss_one (ps_ret (pv 0))))), ?_⟩
    walk_at "go"
    refine w_loop (fun k σ H' => ∃ (y d : Nat) (v3 : Option V), σ = [some (.int (y : Nat)), some (.int (m : Nat)), some (.int (d : Nat)), v3] ∧ H' = H ∧ Spread z d y ∧ d ≤ m ∧ k = m - d) m ?_ ?_
    · exact ⟨z, 0, _, rfl, rfl, spread_zero z, Nat.zero_le _, rfl⟩
    · rintro k σ H' ⟨y, d, v3, rfl, rfl, sp, dm, rfl⟩
      have yb := spread_below sp hb
      walk_at "go"
      by_cases c : d < m
      · rw [if_pos (decide_eq_true (by omega))]
        refine ⟨fun σ' H'' => ∃ (y' d' : Nat) (v3 : Option V), σ' = [some (.int (y' : Nat)), some (.int (m : Nat)), some (.int (d' : Nat)), v3] ∧ H'' = H' ∧ Spread z d' y' ∧ d' ≤ m ∧ d < d', fun σ' H'' ⟨y', d', v, e, h1, h2, h3, h4⟩ => ⟨m - d', by omega, y', d', v, e, h1, h2, h3, rfl⟩, ?_⟩
        walk_at "go"
        obtain ⟨st, est, s1, s2, s3⟩ : ∃ st : Nat, (if (m : Int) - d < d + 1 then (m : Int) - d else d + 1) = (st : Int) ∧ 1 ≤ st ∧ st ≤ d + 1 ∧ d + st ≤ m := by
          by_cases c2 : (m : Int) - d < d + 1
          · exact ⟨m - d, by rw [if_pos c2]; omega, by omega, by omega, by omega⟩
          · exact ⟨d + 1, by rw [if_neg c2]; omega, by omega, by omega, by omega⟩
        rw [est]
        walk_at "go"
        refine ⟨y, st, rfl, rfl, Nat.lt_of_lt_of_le (below_lt yb) (Nat.pow_le_pow_right (by decide) (by omega)), by omega, ?_⟩
        refine ⟨y, y <<< st, rfl, rfl, ?_⟩
        walk_at "go"
        refine ⟨_, rfl, _, rfl, ⟨_, _, rfl, rfl, ?_⟩⟩
        exact ⟨y ||| (y <<< st), d + st, _, rfl, rfl, spread_step sp s2, s3, by omega⟩
      · rw [if_neg (by rw [decide_eq_false (by omega)]; exact Bool.false_ne_true)]
        have e : d = m := by omega
        subst e
        walk_at "go"
        exact q y sp yb
end
end K02
namespace K02
open PySem PySem.Spec PyProof.Rows L2 Wd
theorem g_sfld {K : PySem.W.Frag} {to te : TE} {y : Str} {D : Ends} {σ : L2.St} {H : Hp} (h : te σ H fun x H1 => to σ H1 fun o H2 => ∃ R C dx fs, o = .ref R ∧ H2 R = some (.ins C dx fs) ∧ Cls K C ∧ NoAttr K C y ∧ fs.length < 1000 ∧ D.nx σ (upd H2 R (.ins C dx (putF y x fs)))) : sFld K to te y D σ H := h
theorem g_fldV {K : PySem.W.Frag} {i : Nat} {f : Str} {R C dx : Addr} {fs : List (Str × V)} {v : V} {σ : L2.St} {H : Hp} {Q : VK} (hs : σ[i]? = some (some (.ref R))) (hR : H R = some (.ins C dx fs)) (c : Cls K C) (n : NoAttr K C f) (l : fs.lookup f = some v) (q : Q v H) : tFld K (tVar i) f σ H Q :=
  ⟨_, hs, R, C, dx, fs, v, rfl, hR, c, n, l, q⟩
theorem one_lt_big : (1 : Nat) < 2 ^ 100000 := Nat.one_lt_two_pow (by decide)
theorem sub_nat {a b : Nat} (h : b ≤ a) : ((a : Nat) : Int) - ((b : Nat) : Int) = ((a - b : Nat) : Int) := (Int.ofNat_sub h).symm
structure TxtWt (K : PySem.W.Frag) (CWt : Addr) : Prop where
  c : Cls K CWt
  nL : NoAttr K CWt "low"
  nH : NoAttr K CWt "high"
  nB : NoAttr K CWt "bitten"
  nI : NoAttr K CWt "bite"
  nS : NoAttr K CWt "too_soon"
  nT : NoAttr K CWt "timely"
section
variable {P : Program} {w : World} {K : PySem.W.Frag} {mg : Str → Option Value} {base : Heap} {CWt : Addr}
abbrev watF (lo hi : Nat) : List (Str × V) := [("low", .int (lo : Nat)), ("high", .int (hi : Nat)), ("bitten", .int ((hi + 1 : Nat) : Int)), ("bite", .int ((2 ^ (hi + 1) : Nat) : Int)), ("too_soon", .int ((2 ^ lo - 1 : Nat) : Int)), ("timely", .int ((2 ^ (hi + 1) - 2 ^ lo : Nat) : Int))]
abbrev s_Watcher_init : Stmt := (C8.clsBody (top 33)).getD 0 (.Pass ⟨0, 0, 0, 0⟩)
abbrev s_Watcher_gap_behind_pat : Stmt := (C8.clsBody (top 33)).getD 1 (.Pass ⟨0, 0, 0, 0⟩)
abbrev s_Watcher_gap_behind_work : Stmt := (C8.clsBody (top 33)).getD 2 (.Pass ⟨0, 0, 0, 0⟩)
abbrev s_Watcher_gaps_ahead_of_pat : Stmt := (C8.clsBody (top 33)).getD 3 (.Pass ⟨0, 0, 0, 0⟩)
abbrev s_Watcher_gaps_ahead_of_work : Stmt := (C8.clsBody (top 33)).getD 4 (.Pass ⟨0, 0, 0, 0⟩)
theorem sc_Watcher_init : FnScope ["self", "window"] ["self", "window"] (C8.fnScope s_Watcher_init) := C8.fnScope_by (by decide +kernel)
def sp_winit (K : PySem.W.Frag) (CWt : Addr) : Sp := fun vs H Q _ => ∃ (R dx W : Addr) (lo hi : Nat), vs = [.ref R, .ref W] ∧ H R = some (.ins CWt dx []) ∧ SqT K H W [.int (lo : Nat), .int (hi : Nat)] ∧ lo ≤ hi ∧ hi ≤ 1000 ∧ ∀ H', Frm R H H' → H' R = some (.ins CWt dx (watF lo hi)) → Q .non H'
theorem ok_winit (T : TxtWt K CWt) {f : Addr} {fd : FuncData} (M : Mk K CWt f) (hm : mg "Watcher" = some (.ref CWt)) (F : C8.Fun K "__init__" "Watcher.__init__" s_Watcher_init f fd) (b : Binds K fd ["self", "window"] []) : C8.Mak P w K mg base 1 "Watcher" CWt (sp_winit K CWt) [] := by
  refine C8.mak0 M hm F b .nil sc_Watcher_init (fun vs H Q E h => ?_) fun cdv A outer s H vs Q E hr h => ?_
  · obtain ⟨R, dx, W, lo, hi, rfl, _⟩ := h; rfl
  · obtain ⟨R, dx, W, lo, hi, rfl, hR, hW, h1, h2, q⟩ := h
    have nd := sc_Watcher_init.nd
    refine ⟨_, (pss_cons (ps_asg (pv 1) (pg_tup rfl (pgs_cons (pg_att (pv 0)) (pgs_cons (pg_att (pv 0)) pgs_nil))))
      (pss_cons (ps_fld (pv 0) (pe_op op_add (pe_fld (pv 0) rfl) pe_int) rfl)
      (pss_cons (ps_fld (pv 0) (pe_op (r := rShlB) op_shlB pe_int (pe_fld (pv 0) rfl)) rfl)
      (pss_cons (ps_fld (pv 0) (pe_op op_sub (pe_op (r := rShlB) op_shlB pe_int (pe_fld (pv 0) rfl)) pe_int) rfl)
      (pss_one (ps_fld (pv 0) (pe_op op_sub (pe_fld (pv 0) rfl) (pe_op (r := rShlB) op_shlB pe_int (pe_fld (pv 0) rfl))) rfl)))))), ?_⟩
    walk_at "go"
    refine g_gtup hW rfl ?_
    walk_at "go"
    refine ⟨_, rfl, R, CWt, dx, _, rfl, hR, T.c, T.nL, by decide, ?_⟩
    walk_at "go"
    refine ⟨_, rfl, R, CWt, dx, _, rfl, upd_same, T.c, T.nH, by show 1 < 1000; decide, ?_⟩
    walk_at "go"
    refine g_sfld ?_
    walk_at "go"
    refine ⟨_, rfl, R, CWt, dx, _, _, rfl, upd_same, T.c, T.nH, rfl, ?_⟩
    walk_at "go"
    refine ⟨R, CWt, dx, _, rfl, upd_same, T.c, T.nB, by show 2 < 1000; decide, ?_⟩
    walk_at "go"
    refine g_sfld ?_
    walk_at "go"
    refine ⟨_, rfl, R, CWt, dx, _, _, rfl, upd_same, T.c, T.nB, rfl, ?_⟩
    refine ⟨1, hi + 1, rfl, rfl, one_lt_big, by omega, ?_⟩
    rw [Nat.one_shiftLeft]
    walk_at "go"
    refine ⟨R, CWt, dx, _, rfl, upd_same, T.c, T.nI, by show 3 < 1000; decide, ?_⟩
    walk_at "go"
    refine g_sfld ?_
    walk_at "go"
    refine ⟨_, rfl, R, CWt, dx, _, _, rfl, upd_same, T.c, T.nL, rfl, ?_⟩
    refine ⟨1, lo, rfl, rfl, one_lt_big, by omega, ?_⟩
    rw [Nat.one_shiftLeft]
    walk_at "go"
    rw [show (1 : Int) = ((1 : Nat) : Int) from rfl, sub_nat (Nat.one_le_two_pow (n := lo))]
    refine ⟨R, CWt, dx, _, rfl, upd_same, T.c, T.nS, by show 4 < 1000; decide, ?_⟩
    walk_at "go"
    refine g_sfld ?_
    walk_at "go"
    refine ⟨_, rfl, R, CWt, dx, _, _, rfl, upd_same, T.c, T.nI, rfl, ?_⟩
    walk_at "go"
    refine ⟨_, rfl, R, CWt, dx, _, _, rfl, upd_same, T.c, T.nL, rfl, ?_⟩
    refine ⟨1, lo, rfl, rfl, one_lt_big, by omega, ?_⟩
    rw [Nat.one_shiftLeft]
    walk_at "go"
    rw [sub_nat (Nat.pow_le_pow_right (by decide) (by omega) : 2 ^ lo ≤ 2 ^ (hi + 1))]
    refine ⟨R, CWt, dx, _, rfl, upd_same, T.c, T.nT, by show 5 < 1000; decide, ?_⟩
    exact q _ (((((Frm.set.trans .set).trans .set).trans .set).trans .set).trans .set) upd_same
theorem sc_gap_behind_pat : FnScope ["self", "gap"] ["self", "gap"] (C8.fnScope s_Watcher_gap_behind_pat) := C8.fnScope_by (by decide +kernel)
/-- a watcher -/
def IsWt (H : Hp) (CWt R : Addr) (lo hi : Nat) : Prop := ∃ dx, H R = some (.ins CWt dx (watF lo hi))
def sp_gbp (CWt : Addr) : Sp := fun vs H Q _ => ∃ (R : Addr) (lo hi g : Nat), vs = [.ref R, .int (g : Nat)] ∧ IsWt H CWt R lo hi ∧ Q (.int ((gP lo hi g : Nat) : Int)) H
theorem ok_gbp (T : TxtWt K CWt) {f : Addr} {fd : FuncData} (me : Meth K CWt "gap_behind_pat" f) (F : C8.Fun K "gap_behind_pat" "Watcher.gap_behind_pat" s_Watcher_gap_behind_pat f fd) (b : Binds K fd ["self", "gap"] []) : C8.Met P w K mg base 1 CWt "gap_behind_pat" (sp_gbp CWt) [] := by
  refine C8.met0 T.c me F b sc_gap_behind_pat (fun vs H Q E h => ?_) fun cdv A outer s H vs Q E hr h => ?_
  · obtain ⟨R, lo, hi, g, rfl, _⟩ := h; rfl
  · obtain ⟨R, lo, hi, g, rfl, ⟨dx, hR⟩, q⟩ := h
    have nd := sc_gap_behind_pat.nd
    refine ⟨_, (pss_cons (ps_if (pt_chain op_le op_le (pe_fld (pv 0) rfl) (pv 1) (pe_fld (pv 0) rfl)) (pss_one (ps_ret pe_int)) pss_nil)
      (pss_one (ps_ret (pe_fld (pv 0) rfl)))), ?_⟩
    walk_at "go"
    refine g_fldV rfl hR T.c T.nL rfl ?_
    walk_at "go"
    unfold gP at q
    refine g_ite (fun h1 => ?_) (fun h1 => ?_)
    · have c1 : lo ≤ g := by have : (lo : Int) ≤ (g : Int) := h1; omega
      refine g_fldV rfl hR T.c T.nH rfl ?_
      walk_at "go"
      by_cases c2 : g ≤ hi
      · rw [if_pos ⟨c1, c2⟩] at q
        refine g_ite (fun _ => ?_) (fun z => absurd (show (g : Int) ≤ (hi : Int) by omega) z)
        walk_at "go"
        exact q
      · rw [if_neg (fun z => c2 z.2)] at q
        refine g_ite (fun z => absurd (show (g : Int) ≤ (hi : Int) from z) (by omega)) (fun _ => ?_)
        walk_at "go"
        refine g_fldV rfl hR T.c T.nB rfl ?_
        exact q
    · rw [if_neg (fun z => h1 (show (lo : Int) ≤ (g : Int) by have := z.1; omega))] at q
      walk_at "go"
      refine g_fldV rfl hR T.c T.nB rfl ?_
      exact q
theorem sc_gap_behind_work : FnScope ["self", "gap", "delay"] ["self", "gap", "delay"] (C8.fnScope s_Watcher_gap_behind_work) := C8.fnScope_by (by decide +kernel)
def sp_gbw (CWt : Addr) : Sp := fun vs H Q _ => ∃ (R : Addr) (lo hi g d : Nat), vs = [.ref R, .int (g : Nat), .int (d : Nat)] ∧ IsWt H CWt R lo hi ∧ Q (.int ((gW hi g d : Nat) : Int)) H
theorem ok_gbw (TW : TxtWt K CWt) (T : TxtJ K mg) {f : Addr} {fd : FuncData} (me : Meth K CWt "gap_behind_work" f) (F : C8.Fun K "gap_behind_work" "Watcher.gap_behind_work" s_Watcher_gap_behind_work f fd) (b : Binds K fd ["self", "gap", "delay"] []) : C8.Met P w K mg base 1 CWt "gap_behind_work" (sp_gbw CWt) [] := by
  refine C8.met0 TW.c me F b sc_gap_behind_work (fun vs H Q E h => ?_) fun cdv A outer s H vs Q E hr h => ?_
  · obtain ⟨R, lo, hi, g, d, rfl, _⟩ := h; rfl
  · obtain ⟨R, lo, hi, g, d, rfl, ⟨dx, hR⟩, q⟩ := h
    have nd := sc_gap_behind_work.nd
    refine ⟨_, (pss_one (ps_ret (pe_callB (call_min1 rfl) (by rfl) T.n_min (by decide +kernel) (pa_cons (pe_op op_add (pv 1) (pv 2)) (pa_cons (pe_fld (pv 0) rfl) pa_nil))))), ?_⟩
    walk_at "go"
    refine g_fldV rfl hR TW.c TW.nB rfl ?_
    walk_at "go"
    have e : (if ((hi + 1 : Nat) : Int) < (g : Int) + (d : Int) then ((hi + 1 : Nat) : Int) else (g : Int) + (d : Int)) = ((gW hi g d : Nat) : Int) := by
      unfold gW
      split <;> omega
    rw [e]
    exact q
end
end K02
namespace K02
open PySem PySem.Spec PyProof.Rows L2 Wd
local macro_rules | `(tactic| walk_at "gs") => `(tactic| repeat (first
  | with_reducible refine Wd.g_seq ?_
  | ((with_reducible show L2.Ends.nx _ _ _); (with_reducible refine Wd.g_nx ?_))
  | with_reducible refine Wd.g_asg ?_
  | ((with_reducible refine' Wd.g_var ?h1 ?_); (case h1 => exact rfl))
  | with_reducible refine Wd.g_c ?_
  | with_reducible refine Wd.g_op ?_
  | with_reducible refine Wd.g_un ?_
  | with_reducible refine Wd.g_I0 ?_
  | with_reducible refine Wd.g_U ?_
  | with_reducible refine Wd.g_eqI ?_
  | with_reducible refine Wd.g_neI ?_
  | with_reducible refine Wd.g_eqS ?_
  | with_reducible refine Wd.g_neS ?_
  | with_reducible refine Wd.g_eqB ?_
  | with_reducible refine Wd.g_neB ?_
  | with_reducible refine Wd.g_isN ?_
  | with_reducible refine Wd.g_notN ?_
  | with_reducible refine Wd.g_lc ?_
  | with_reducible refine Wd.g_yes ?_
  | with_reducible refine Wd.g_test ?_
  | with_reducible refine Wd.g_tB ?_
  | with_reducible refine Wd.g_bl ?_
  | with_reducible refine Wd.g_blI ?_
  | with_reducible refine Wd.g_and ?_
  | with_reducible refine Wd.g_or ?_
  | with_reducible refine Wd.g_not ?_
  | with_reducible refine Wd.g_andV ?_
  | with_reducible refine Wd.g_orV ?_
  | with_reducible refine Wd.g_notV ?_
  | with_reducible refine Wd.g_if ?_
  | with_reducible refine Wd.g_chain ?_
  | with_reducible refine Wd.g_chain3 ?_
  | with_reducible refine Wd.g_nil ?_
  | with_reducible refine Wd.g_cons ?_
  | with_reducible refine Wd.g_tup ?_
  | with_reducible refine Wd.g_lst ?_
  | with_reducible refine Wd.g_CB ?_
  | with_reducible refine Wd.g_call ?_
  | with_reducible refine Wd.g_callS ?_
  | with_reducible refine Wd.g_bm ?_
  | with_reducible refine Wd.g_bm0 ?_
  | with_reducible refine Wd.g_sl ?_
  | with_reducible refine Wd.g_part ?_
  | with_reducible refine Wd.g_part1 ?_
  | with_reducible refine Wd.g_noPart ?_
  | with_reducible refine Wd.g_next ?_
  | with_reducible refine Wd.g_name ?_
  | with_reducible refine Wd.g_sub ?_
  | with_reducible refine Wd.g_gnil ?_
  | with_reducible refine Wd.g_gcons ?_
  | with_reducible refine Wd.g_drop ?_
  | with_reducible refine Wd.g_ret ?_
  | with_reducible refine Wd.g_retN ?_
  | with_reducible refine Wd.g_brk ?_
  | with_reducible refine Wd.g_cont ?_
  | ((with_reducible show L2.Ends.bk _ _ _); (with_reducible refine Wd.g_bk ?_))
  | ((with_reducible show L2.Ends.ct _ _ _); (with_reducible refine Wd.g_ct ?_))
  | ((with_reducible show L2.Ends.rt _ _ _); (with_reducible refine Wd.g_rt ?_))
  | with_reducible refine Wd.g_for ?_
  | with_reducible refine Wd.g_rng1 ?_
  | with_reducible refine Wd.g_rng2 ?_
  | with_reducible refine Wd.g_iList ?_
  | with_reducible refine Wd.g_iTup ?_
  | ((with_reducible refine Wd.g_fit ?h1 ?_); (case h1 => exact rfl))
  | with_reducible refine Wd.g_max2 ?_
  | with_reducible refine Wd.g_min2 ?_
  | with_reducible refine Wd.g_int1B ?_
  | with_reducible refine L2.iteT ?_
  | with_reducible refine L2.iteF ?_
  | ((with_reducible refine Wd.g_itT ?h1 ?_); (case h1 => exact rfl))
  | ((with_reducible refine Wd.g_itF ?h1 ?_); (case h1 => exact rfl))))
theorem g_join {t : TT} {a b : TS} {σ : L2.St} {H : Hp} {N : L2.St → Hp → Prop} {rt : VK} {bk ct : L2.St → Hp → Prop} (P : L2.St → Hp → Prop) (key : ∀ σ H, P σ H → N σ H) (h : ∀ N' : L2.St → Hp → Prop, (∀ σ H, P σ H → N' σ H) → tIfS t a b ⟨N', rt, bk, ct⟩ σ H) : tIfS t a b ⟨N, rt, bk, ct⟩ σ H := h N key
theorem spread_ex (z : Nat) : ∀ m : Nat, ∃ s, Spread z m s
  | 0 => ⟨z, spread_zero z⟩
  | m + 1 => (spread_ex z m).elim fun s h => ⟨_, spread_step h (Nat.le_add_left 1 m)⟩
theorem below_bite (hi : Nat) : Below (hi + 2) (2 ^ (hi + 1)) := fun i h => by
  rw [tb_one, decide_eq_true_eq] at h; omega
theorem mask_bit {lo hi i : Nat} (h : lo ≤ hi) : (((2 ^ (hi + 1) - 2 ^ lo) ||| (2 ^ lo - 1)) ||| 2 ^ (hi + 1)).testBit i = decide (i ≤ hi + 1) := by
  rw [tb_or, tb_or, tb_timely (by omega), tb_low, tb_one, ← Bool.decide_or, ← Bool.decide_or]
  exact decide_eq_decide.mpr ⟨fun z => by omega, fun z => by omega⟩
section
variable {P : Program} {w : World} {K : PySem.W.Frag} {mg : Str → Option Value} {base : Heap} {CWt : Addr}
theorem sc_gap_pat : FnScope ["self", "goal", "gaps"] ["self", "goal"] (C8.fnScope s_Watcher_gaps_ahead_of_pat) := C8.fnScope_by (by decide +kernel)
def sp_gap (CWt : Addr) : Sp := fun vs H Q _ => ∃ (R : Addr) (lo hi z : Nat), vs = [.ref R, .int (z : Nat)] ∧ IsWt H CWt R lo hi ∧ Q (.int ((preP lo hi z : Nat) : Int)) H
theorem ok_gap (TW : TxtWt K CWt) {f : Addr} {fd : FuncData} (me : Meth K CWt "gaps_ahead_of_pat" f) (F : C8.Fun K "gaps_ahead_of_pat" "Watcher.gaps_ahead_of_pat" s_Watcher_gaps_ahead_of_pat f fd) (b : Binds K fd ["self", "goal"] []) (g_holds : C8.Cal P w K mg base 1 "holds" sp_holds []) : C8.Met P w K mg base 2 CWt "gaps_ahead_of_pat" (sp_gap CWt) [] := by
  refine C8.met0 TW.c me F b sc_gap_pat (fun vs H Q E h => ?_) fun cdv A outer s H vs Q E hr h => ?_
  · obtain ⟨R, lo, hi, z, rfl, _⟩ := h; rfl
  · obtain ⟨R, lo, hi, z, rfl, ⟨dx, hR⟩, q⟩ := h
    have nd := sc_gap_pat.nd
    refine ⟨_, (pss_cons (ps_set (i := 2) nd rfl (Or.inl rfl) pe_int)
      (pss_cons (ps_if (pt_val (C8.pe_c g_holds hr (by first | decide | exact Nat.le_refl _ | omega) (by rfl) (pa_cons (pv 1) (pa_cons pe_int pa_nil)))) (pss_one (ps_set (i := 2) nd rfl (Or.inl rfl) (pe_op (r := rOrB) op_orB (pv 2) (pe_fld (pv 0) rfl)))) pss_nil)
      (pss_cons (ps_if (pt_val (C8.pe_c g_holds hr (by first | decide | exact Nat.le_refl _ | omega) (by rfl) (pa_cons (pv 1) (pa_cons (pe_fld (pv 0) rfl) pa_nil)))) (pss_one (ps_set (i := 2) nd rfl (Or.inl rfl) (pe_op (r := rOrB) op_orB (pe_op (r := rOrB) op_orB (pv 2) (pe_fld (pv 0) rfl)) (pe_fld (pv 0) rfl)))) pss_nil)
      (pss_one (ps_ret (pv 2)))))), ?_⟩
    walk_at "gs"
    refine g_join (fun σ H' => ∃ y : Nat, σ = [some (.ref R), some (.int (z : Nat)), some (.int (y : Nat))] ∧ H' = H ∧ y = if z.testBit 0 = true then 2 ^ (hi + 1) - 2 ^ lo else 0) ?_ ?_
    case refine_2 =>
      intro N' hk
      walk_at "go"
      refine ⟨z, 0, rfl, ?_⟩
      walk_at "go"
      by_cases c : z.testBit 0 = true
      · rw [if_pos c]
        walk_at "go"
        refine g_fldV rfl hR TW.c TW.nT rfl ?_
        refine ⟨0, 2 ^ (hi + 1) - 2 ^ lo, rfl, rfl, ?_⟩
        walk_at "go"
        exact hk _ _ ⟨_, rfl, rfl, by rw [if_pos c, Nat.zero_or]⟩
      · rw [if_neg c]
        exact hk _ _ ⟨0, rfl, rfl, by rw [if_neg c]⟩
    case refine_1 =>
      rintro σ H' ⟨y, rfl, rfl, ey⟩
      walk_at "go"
      refine g_fldV rfl hR TW.c TW.nB rfl ?_
      walk_at "go"
      refine ⟨z, hi + 1, rfl, ?_⟩
      walk_at "go"
      unfold preP at q
      rw [← ey] at q
      by_cases c : z.testBit (hi + 1) = true
      · rw [if_pos c] at q ⊢
        walk_at "go"
        refine g_fldV rfl hR TW.c TW.nS rfl ?_
        refine ⟨y, 2 ^ lo - 1, rfl, rfl, ?_⟩
        walk_at "go"
        refine g_fldV rfl hR TW.c TW.nI rfl ?_
        refine ⟨y ||| (2 ^ lo - 1), 2 ^ (hi + 1), rfl, rfl, ?_⟩
        walk_at "go"
        rw [Nat.or_assoc]
        exact q
      · rw [if_neg c] at q ⊢
        walk_at "go"
        rw [Nat.or_zero] at q
        exact q
theorem sc_gap_work : FnScope ["self", "goal", "least", "most", "gaps"] ["self", "goal", "least", "most"] (C8.fnScope s_Watcher_gaps_ahead_of_work) := C8.fnScope_by (by decide +kernel)
def sp_gaw (CWt : Addr) : Sp := fun vs H Q _ => ∃ (R : Addr) (lo hi z least most : Nat), vs = [.ref R, .int (z : Nat), .int (least : Nat), .int (most : Nat)] ∧ IsWt H CWt R lo hi ∧ lo ≤ hi ∧ hi ≤ 1000 ∧ Below (hi + 2) z ∧ least ≤ most ∧ most ≤ 1000 ∧
  ∀ g, Bits hi (Led lo hi (.work least most)) z g → Q (.int (g : Nat)) H
theorem ok_gaw (TW : TxtWt K CWt) {f : Addr} {fd : FuncData} (me : Meth K CWt "gaps_ahead_of_work" f) (F : C8.Fun K "gaps_ahead_of_work" "Watcher.gaps_ahead_of_work" s_Watcher_gaps_ahead_of_work f fd) (b : Binds K fd ["self", "goal", "least", "most"] []) (g_holds : C8.Cal P w K mg base 1 "holds" sp_holds []) (g_spread : C8.Cal P w K mg base 1 "spread" sp_spread []) : C8.Met P w K mg base 2 CWt "gaps_ahead_of_work" (sp_gaw CWt) [] := by
  refine C8.met0 TW.c me F b sc_gap_work (fun vs H Q E h => ?_) fun cdv A outer s H vs Q E hr h => ?_
  · obtain ⟨R, lo, hi, z, least, most, rfl, _⟩ := h; rfl
  · obtain ⟨R, lo, hi, z, least, most, rfl, ⟨dx, hR⟩, l1, l2, hb, l3, l4, q⟩ := h
    have nd := sc_gap_work.nd
    refine ⟨_, (pss_cons (ps_if (pt_val (C8.pe_c g_holds hr (by first | decide | exact Nat.le_refl _ | omega) (by rfl) (pa_cons (pv 1) (pa_cons (pe_fld (pv 0) rfl) pa_nil)))) (pss_one (ps_set (i := 1) nd rfl (Or.inl rfl) (pe_op (r := rOrB) op_orB (pv 1) (C8.pe_c g_spread hr (by first | decide | exact Nat.le_refl _ | omega) (by rfl) (pa_cons (pe_fld (pv 0) rfl) (pa_cons (pv 3) pa_nil)))))) pss_nil)
      (pss_cons (ps_set (i := 4) nd rfl (Or.inl rfl) (pe_op (r := rShrB) op_shrB (C8.pe_c g_spread hr (by first | decide | exact Nat.le_refl _ | omega) (by rfl) (pa_cons (pv 1) (pa_cons (pe_op op_sub (pv 3) (pv 2)) pa_nil))) (pv 3)))
      (pss_one (ps_ret (pe_op (r := rAndB) op_andB (pv 4) (pe_op (r := rOrB) op_orB (pe_op (r := rOrB) op_orB (pe_fld (pv 0) rfl) (pe_fld (pv 0) rfl)) (pe_fld (pv 0) rfl))))))), ?_⟩
    walk_at "gs"
    refine g_join (fun σ H' => ∃ (z2 s1 : Nat) (v4 : Option V), σ = [some (.ref R), some (.int (z2 : Nat)), some (.int (least : Nat)), some (.int (most : Nat)), v4] ∧ H' = H ∧ Spread (2 ^ (hi + 1)) most s1 ∧ z2 = (if z.testBit (hi + 1) = true then z ||| s1 else z) ∧ Below (hi + 2 + most) z2) ?_ ?_
    case refine_2 =>
      intro N' hk
      walk_at "go"
      refine g_fldV rfl hR TW.c TW.nB rfl ?_
      walk_at "go"
      refine ⟨z, hi + 1, rfl, ?_⟩
      walk_at "go"
      by_cases c : z.testBit (hi + 1) = true
      · rw [if_pos c]
        walk_at "go"
        refine g_fldV rfl hR TW.c TW.nI rfl ?_
        walk_at "go"
        refine ⟨2 ^ (hi + 1), most, hi + 2, rfl, below_bite hi, by omega, by omega, fun s sp sb => ?_⟩
        refine ⟨z, s, rfl, rfl, ?_⟩
        walk_at "go"
        refine hk _ _ ⟨z ||| s, s, _, rfl, rfl, sp, by rw [if_pos c], fun i hi' => ?_⟩
        rw [tb_or, Bool.or_eq_true] at hi'
        rcases hi' with h | h
        · have := hb i h; omega
        · exact sb i h
      · rw [if_neg c]
        obtain ⟨s, sp⟩ := spread_ex (2 ^ (hi + 1)) most
        exact hk _ _ ⟨z, s, _, rfl, rfl, sp, by rw [if_neg c], fun i h => by have := hb i h; omega⟩
    case refine_1 =>
      rintro σ H' ⟨z2, s1, v4, rfl, rfl, sp1, ez, bz⟩
      walk_at "go"
      rw [sub_nat l3]
      refine ⟨z2, most - least, hi + 2 + most, rfl, bz, by omega, by omega, fun s2 sp2 sb2 => ?_⟩
      walk_at "go"
      refine ⟨s2, most, rfl, rfl, ?_⟩
      walk_at "go"
      refine g_fldV rfl hR TW.c TW.nT rfl ?_
      walk_at "go"
      refine g_fldV rfl hR TW.c TW.nS rfl ?_
      refine ⟨2 ^ (hi + 1) - 2 ^ lo, 2 ^ lo - 1, rfl, rfl, ?_⟩
      walk_at "go"
      refine g_fldV rfl hR TW.c TW.nI rfl ?_
      refine ⟨_, 2 ^ (hi + 1), rfl, rfl, ?_⟩
      refine ⟨s2 >>> most, _, rfl, rfl, ?_⟩
      refine q _ ⟨fun i h => ?_, fun i hi' => ?_⟩
      · rw [tb_and, Bool.and_eq_true, mask_bit l1, decide_eq_true_eq] at h
        omega
      · rw [tb_and, Bool.and_eq_true, mask_bit l1, decide_eq_true_eq]
        unfold Led
        rw [preW_bit hb l3 sp1 ez sp2 hi']
        exact ⟨fun ⟨⟨d, a1, a2, a3⟩, _⟩ => ⟨d, by omega, by omega, a3⟩, fun ⟨d, a1, a2, a3⟩ => ⟨⟨d, by omega, by omega, a3⟩, hi'⟩⟩
end
end K02
namespace K02
open PySem PySem.Spec PyProof.Rows L2 Wd
local macro_rules | `(tactic| walk_at "gs") => `(tactic| repeat (first
  | with_reducible refine Wd.g_seq ?_
  | ((with_reducible show L2.Ends.nx _ _ _); (with_reducible refine Wd.g_nx ?_))
  | with_reducible refine Wd.g_asg ?_
  | ((with_reducible refine' Wd.g_var ?h1 ?_); (case h1 => exact rfl))
  | with_reducible refine Wd.g_c ?_
  | with_reducible refine Wd.g_op ?_
  | with_reducible refine Wd.g_un ?_
  | with_reducible refine Wd.g_I0 ?_
  | with_reducible refine Wd.g_U ?_
  | with_reducible refine Wd.g_eqI ?_
  | with_reducible refine Wd.g_neI ?_
  | with_reducible refine Wd.g_eqS ?_
  | with_reducible refine Wd.g_neS ?_
  | with_reducible refine Wd.g_eqB ?_
  | with_reducible refine Wd.g_neB ?_
  | with_reducible refine Wd.g_isN ?_
  | with_reducible refine Wd.g_notN ?_
  | with_reducible refine Wd.g_lc ?_
  | with_reducible refine Wd.g_yes ?_
  | with_reducible refine Wd.g_test ?_
  | with_reducible refine Wd.g_tB ?_
  | with_reducible refine Wd.g_bl ?_
  | with_reducible refine Wd.g_blI ?_
  | with_reducible refine Wd.g_and ?_
  | with_reducible refine Wd.g_or ?_
  | with_reducible refine Wd.g_not ?_
  | with_reducible refine Wd.g_andV ?_
  | with_reducible refine Wd.g_orV ?_
  | with_reducible refine Wd.g_notV ?_
  | with_reducible refine Wd.g_if ?_
  | with_reducible refine Wd.g_chain ?_
  | with_reducible refine Wd.g_chain3 ?_
  | with_reducible refine Wd.g_nil ?_
  | with_reducible refine Wd.g_cons ?_
  | with_reducible refine Wd.g_tup ?_
  | with_reducible refine Wd.g_lst ?_
  | with_reducible refine Wd.g_CB ?_
  | with_reducible refine Wd.g_call ?_
  | with_reducible refine Wd.g_callS ?_
  | with_reducible refine Wd.g_bm ?_
  | with_reducible refine Wd.g_bm0 ?_
  | with_reducible refine Wd.g_sl ?_
  | with_reducible refine Wd.g_part ?_
  | with_reducible refine Wd.g_part1 ?_
  | with_reducible refine Wd.g_noPart ?_
  | with_reducible refine Wd.g_next ?_
  | with_reducible refine Wd.g_name ?_
  | with_reducible refine Wd.g_sub ?_
  | with_reducible refine Wd.g_gnil ?_
  | with_reducible refine Wd.g_gcons ?_
  | with_reducible refine Wd.g_drop ?_
  | with_reducible refine Wd.g_ret ?_
  | with_reducible refine Wd.g_retN ?_
  | with_reducible refine Wd.g_brk ?_
  | with_reducible refine Wd.g_cont ?_
  | ((with_reducible show L2.Ends.bk _ _ _); (with_reducible refine Wd.g_bk ?_))
  | ((with_reducible show L2.Ends.ct _ _ _); (with_reducible refine Wd.g_ct ?_))
  | ((with_reducible show L2.Ends.rt _ _ _); (with_reducible refine Wd.g_rt ?_))
  | with_reducible refine Wd.g_for ?_
  | with_reducible refine Wd.g_rng1 ?_
  | with_reducible refine Wd.g_rng2 ?_
  | with_reducible refine Wd.g_iList ?_
  | with_reducible refine Wd.g_iTup ?_
  | ((with_reducible refine Wd.g_fit ?h1 ?_); (case h1 => exact rfl))
  | with_reducible refine Wd.g_max2 ?_
  | with_reducible refine Wd.g_min2 ?_
  | with_reducible refine Wd.g_int1B ?_
  | with_reducible refine L2.iteT ?_
  | with_reducible refine L2.iteF ?_
  | ((with_reducible refine Wd.g_itT ?h1 ?_); (case h1 => exact rfl))
  | ((with_reducible refine Wd.g_itF ?h1 ?_); (case h1 => exact rfl))))
/-- the ways' classes, and the names that they don't keep for themselves -/
structure TxtY (K : PySem.W.Frag) (WP WK WR WE WL : Addr) : Prop where
  cP : Cls K WP
  cK : Cls K WK
  cR : Cls K WR
  cE : Cls K WE
  cL : Cls K WL
  pW : NoAttr K WP "watcher"
  pG : NoAttr K WP "gaps"
  kW : NoAttr K WK "watcher"
  kO : NoAttr K WK "goal"
  kL : NoAttr K WK "least"
  kG : NoAttr K WK "gaps"
  rY : NoAttr K WR "ways"
  rG : NoAttr K WR "gaps"
  eY : NoAttr K WE "ways"
  eG : NoAttr K WE "gaps"
  lL : NoAttr K WL "least"
  lT : NoAttr K WL "turns"
  lO : NoAttr K WL "goals"
  lG : NoAttr K WL "gaps"
/-- the classes, the watcher and its window -/
structure Wy where
  WP : Addr
  WK : Addr
  WR : Addr
  WE : Addr
  WL : Addr
  Wt : Addr
  lo : Nat
  hi : Nat
abbrev nV (n : Nat) : V := .int (n : Int)
mutual
/-- v is the way of p into z, from g; its lists lie apart from what N tells -/
inductive WayA (Y : Wy) (N : Addr → Prop) (H : Hp) : V → Pl → Nat → Nat → Prop
  | pat {R dx : Addr} {z g : Nat} : H R = some (.ins Y.WP dx [("watcher", .ref Y.Wt), ("gaps", nV g)]) → ¬ N R → Bits Y.hi (Led Y.lo Y.hi .pat) z g → WayA Y N H (.ref R) .pat z g
  | work {R dx : Addr} {a b z g : Nat} : H R = some (.ins Y.WK dx [("watcher", .ref Y.Wt), ("goal", nV z), ("least", nV a), ("gaps", nV g)]) → ¬ N R → Bits Y.hi (Led Y.lo Y.hi (.work a b)) z g → WayA Y N H (.ref R) (.work a b) z g
  | row {R dx L : Addr} {vs : List V} {ps : List Pl} {z g : Nat} : H R = some (.ins Y.WR dx [("ways", .ref L), ("gaps", nV g)]) → ¬ N R → H L = some (.lst vs) → ¬ N L → WaysR Y N H vs ps z g → Bits Y.hi (Led Y.lo Y.hi (.row ps)) z g → WayA Y N H (.ref R) (.row ps) z g
  | either {R dx L : Addr} {vs : List V} {ps : List Pl} {z g : Nat} : H R = some (.ins Y.WE dx [("ways", .ref L), ("gaps", nV g)]) → ¬ N R → H L = some (.lst vs) → ¬ N L → WaysE Y N H vs ps z → Bits Y.hi (Led Y.lo Y.hi (.either ps)) z g → WayA Y N H (.ref R) (.either ps) z g
  | loop {R dx T O : Addr} {ts : List V} {zs : List Nat} {p : Pl} {a b z g : Nat} : H R = some (.ins Y.WL dx [("least", nV a), ("turns", .ref T), ("goals", .ref O), ("gaps", nV g)]) → ¬ N R → H T = some (.lst ts) → ¬ N T → H O = some (.lst (zs.map nV)) → ¬ N O → WaysL Y N H ts p z zs → ts.length = b →
      Bits Y.hi (Led Y.lo Y.hi (.loop a b p)) z g → WayA Y N H (.ref R) (.loop a b p) z g
/-- a row's ways, the last one first -/
inductive WaysR (Y : Wy) (N : Addr → Prop) (H : Hp) : List V → List Pl → Nat → Nat → Prop
  | nil {z : Nat} : WaysR Y N H [] [] z z
  | snoc {vs : List V} {ps : List Pl} {v : V} {p : Pl} {z g g2 : Nat} : WaysR Y N H vs ps z g → WayA Y N H v p g g2 → WaysR Y N H (vs ++ [v]) (p :: ps) z g2
/-- an either's ways -/
inductive WaysE (Y : Wy) (N : Addr → Prop) (H : Hp) : List V → List Pl → Nat → Prop
  | nil {z : Nat} : WaysE Y N H [] [] z
  | cons {vs : List V} {ps : List Pl} {v : V} {p : Pl} {z g : Nat} : WayA Y N H v p z g → WaysE Y N H vs ps z → WaysE Y N H (v :: vs) (p :: ps) z
/-- a loop's turns and goals: the first goal, then those of more turns -/
inductive WaysL (Y : Wy) (N : Addr → Prop) (H : Hp) : List V → Pl → Nat → List Nat → Prop
  | nil {p : Pl} {z : Nat} : WaysL Y N H [] p z [z]
  | snoc {ts : List V} {p : Pl} {v : V} {z g g2 : Nat} {zs : List Nat} : WaysL Y N H ts p z (zs ++ [g]) → WayA Y N H v p g g2 → WaysL Y N H (ts ++ [v]) p z (zs ++ [g] ++ [g2])
end
theorem WayA.bits {Y : Wy} {N : Addr → Prop} {H : Hp} {v : V} {p : Pl} {z g : Nat} (h : WayA Y N H v p z g) : Bits Y.hi (Led Y.lo Y.hi p) z g := by
  cases h <;> assumption
section
variable {Y : Wy} {N N' : Addr → Prop} {H H' : Hp}
mutual
/-- what lies apart from N stays -/
theorem WayA.keep (k : ∀ b o, ¬ N b → H b = some o → H' b = some o) : ∀ {v : V} {p : Pl} {z g : Nat}, WayA Y N H v p z g → WayA Y N H' v p z g
  | _, _, _, _, .pat h r b => .pat (k _ _ r h) r b
  | _, _, _, _, .work h r b => .work (k _ _ r h) r b
  | _, _, _, _, .row h1 r h2 n w b => .row (k _ _ r h1) r (k _ _ n h2) n (WaysR.keep k w) b
  | _, _, _, _, .either h1 r h2 n w b => .either (k _ _ r h1) r (k _ _ n h2) n (WaysE.keep k w) b
  | _, _, _, _, .loop h1 r h2 n h3 n3 w l b => .loop (k _ _ r h1) r (k _ _ n h2) n (k _ _ n3 h3) n3 (WaysL.keep k w) l b
theorem WaysR.keep (k : ∀ b o, ¬ N b → H b = some o → H' b = some o) : ∀ {vs : List V} {ps : List Pl} {z g : Nat}, WaysR Y N H vs ps z g → WaysR Y N H' vs ps z g
  | _, _, _, _, .nil => .nil
  | _, _, _, _, .snoc a b => .snoc (WaysR.keep k a) (WayA.keep k b)
theorem WaysE.keep (k : ∀ b o, ¬ N b → H b = some o → H' b = some o) : ∀ {vs : List V} {ps : List Pl} {z : Nat}, WaysE Y N H vs ps z → WaysE Y N H' vs ps z
  | _, _, _, .nil => .nil
  | _, _, _, .cons a b => .cons (WayA.keep k a) (WaysE.keep k b)
theorem WaysL.keep (k : ∀ b o, ¬ N b → H b = some o → H' b = some o) : ∀ {ts : List V} {p : Pl} {z : Nat} {zs : List Nat}, WaysL Y N H ts p z zs → WaysL Y N H' ts p z zs
  | _, _, _, _, .nil => .nil
  | _, _, _, _, .snoc a b => .snoc (WaysL.keep k a) (WayA.keep k b)
end
mutual
theorem WayA.mono (f : ∀ a, N' a → N a) : ∀ {v : V} {p : Pl} {z g : Nat}, WayA Y N H v p z g → WayA Y N' H v p z g
  | _, _, _, _, .pat h r b => .pat h (fun z => r (f _ z)) b
  | _, _, _, _, .work h r b => .work h (fun z => r (f _ z)) b
  | _, _, _, _, .row h1 r h2 n w b => .row h1 (fun z => r (f _ z)) h2 (fun z => n (f _ z)) (WaysR.mono f w) b
  | _, _, _, _, .either h1 r h2 n w b => .either h1 (fun z => r (f _ z)) h2 (fun z => n (f _ z)) (WaysE.mono f w) b
  | _, _, _, _, .loop h1 r h2 n h3 n3 w l b => .loop h1 (fun z => r (f _ z)) h2 (fun z => n (f _ z)) h3 (fun z => n3 (f _ z)) (WaysL.mono f w) l b
theorem WaysR.mono (f : ∀ a, N' a → N a) : ∀ {vs : List V} {ps : List Pl} {z g : Nat}, WaysR Y N H vs ps z g → WaysR Y N' H vs ps z g
  | _, _, _, _, .nil => .nil
  | _, _, _, _, .snoc a b => .snoc (WaysR.mono f a) (WayA.mono f b)
theorem WaysE.mono (f : ∀ a, N' a → N a) : ∀ {vs : List V} {ps : List Pl} {z : Nat}, WaysE Y N H vs ps z → WaysE Y N' H vs ps z
  | _, _, _, .nil => .nil
  | _, _, _, .cons a b => .cons (WayA.mono f a) (WaysE.mono f b)
theorem WaysL.mono (f : ∀ a, N' a → N a) : ∀ {ts : List V} {p : Pl} {z : Nat} {zs : List Nat}, WaysL Y N H ts p z zs → WaysL Y N' H ts p z zs
  | _, _, _, _, .nil => .nil
  | _, _, _, _, .snoc a b => .snoc (WaysL.mono f a) (WayA.mono f b)
end
theorem WayA.same (f : Same H H') {v : V} {p : Pl} {z g : Nat} (h : WayA Y N H v p z g) : WayA Y N H' v p z g := h.keep fun _ _ _ e => f _ _ e
theorem WaysR.same (f : Same H H') {vs : List V} {ps : List Pl} {z g : Nat} (h : WaysR Y N H vs ps z g) : WaysR Y N H' vs ps z g := h.keep fun _ _ _ e => f _ _ e
theorem WaysE.same (f : Same H H') {vs : List V} {ps : List Pl} {z : Nat} (h : WaysE Y N H vs ps z) : WaysE Y N H' vs ps z := h.keep fun _ _ _ e => f _ _ e
theorem WaysL.same (f : Same H H') {ts : List V} {p : Pl} {z : Nat} {zs : List Nat} (h : WaysL Y N H ts p z zs) : WaysL Y N H' ts p z zs := h.keep fun _ _ _ e => f _ _ e
/-- a thing of N's is changed -/
theorem keepN {D : Addr} {o : HO} (n : N D) : ∀ b u, ¬ N b → H b = some u → upd H D o b = some u := fun b u nb e => by
  rw [upd_ne (fun z => nb (by rw [z]; exact n))]; exact e
theorem WaysE.snoc : ∀ {vs : List V} {ps : List Pl} {v : V} {p : Pl} {z g : Nat}, WaysE Y N H vs ps z → WayA Y N H v p z g → WaysE Y N H (vs ++ [v]) (ps ++ [p]) z
  | _, _, _, _, _, _, .nil, h => .cons h .nil
  | _, _, _, _, _, _, .cons a b, h => .cons a (WaysE.snoc b h)
end
section
variable {P : Program} {w : World} {K : PySem.W.Frag} {mg : Str → Option Value} {base : Heap} {CWt WP WK WR WE WL : Addr}
abbrev s_PatWay_init : Stmt := (C8.clsBody (top 34)).getD 0 (.Pass ⟨0, 0, 0, 0⟩)
theorem sc_PatWay_init : FnScope ["self", "watcher", "goal"] ["self", "watcher", "goal"] (C8.fnScope s_PatWay_init) := C8.fnScope_by (by decide +kernel)
def sp_pinit (CWt WP : Addr) : Sp := fun vs H Q _ => ∃ (R dx Wt : Addr) (lo hi z : Nat), vs = [.ref R, .ref Wt, nV z] ∧ H R = some (.ins WP dx []) ∧ IsWt H CWt Wt lo hi ∧ ∀ H', Frm R H H' → H' R = some (.ins WP dx [("watcher", .ref Wt), ("gaps", nV (preP lo hi z))]) → Q .non H'
theorem ok_pinit (T : TxtY K WP WK WR WE WL) {f : Addr} {fd : FuncData} (M : Mk K WP f) (hm : mg "PatWay" = some (.ref WP)) (F : C8.Fun K "__init__" "PatWay.__init__" s_PatWay_init f fd) (b : Binds K fd ["self", "watcher", "goal"] []) (m_gap : C8.Met P w K mg base 2 CWt "gaps_ahead_of_pat" (sp_gap CWt) []) : C8.Mak P w K mg base 3 "PatWay" WP (sp_pinit CWt WP) [] := by
  refine C8.mak0 M hm F b .nil sc_PatWay_init (fun vs H Q E h => ?_) fun cdv A outer s H vs Q E hr h => ?_
  · obtain ⟨R, dx, Wt, lo, hi, z, rfl, _⟩ := h; rfl
  · obtain ⟨R, dx, Wt, lo, hi, z, rfl, hR, ⟨dw, hW⟩, q⟩ := h
    have nd := sc_PatWay_init.nd
    have nRW : Wt ≠ R := ne_of hW hR (fun z => nomatch z)
    refine ⟨_, (pss_cons (ps_fld (pv 0) (pv 1) rfl)
      (pss_one (ps_fld (pv 0) (C8.pe_mt m_gap hr (by first | decide | exact Nat.le_refl _ | omega) (pv 1) (pa_cons (pv 2) pa_nil)) rfl))), ?_⟩
    walk_at "go"
    refine g_sfld ?_
    walk_at "go"
    refine ⟨R, WP, dx, _, rfl, hR, T.cP, T.pW, by decide, ?_⟩
    walk_at "go"
    refine g_sfld ?_
    walk_at "go"
    refine ⟨_, rfl, Wt, dw, _, rfl, by rw [upd_ne nRW]; exact hW, rfl, ?_⟩
    walk_at "go"
    refine ⟨Wt, lo, hi, z, rfl, ⟨dw, by rw [upd_ne nRW]; exact hW⟩, ?_⟩
    walk_at "go"
    refine ⟨R, WP, dx, _, rfl, upd_same, T.cP, T.pG, by show 1 < 1000; decide, ?_⟩
    exact q _ (Frm.set.trans .set) upd_same
abbrev s_WorkWay_init : Stmt := (C8.clsBody (top 35)).getD 0 (.Pass ⟨0, 0, 0, 0⟩)
theorem sc_WorkWay_init : FnScope ["self", "watcher", "plan", "goal"] ["self", "watcher", "plan", "goal"] (C8.fnScope s_WorkWay_init) := C8.fnScope_by (by decide +kernel)
def sp_kinit (K : PySem.W.Frag) (CWt WK : Addr) : Sp := fun vs H Q _ => ∃ (R dx Wt PA : Addr) (lo hi z a b : Nat), vs = [.ref R, .ref Wt, .ref PA, nV z] ∧ H R = some (.ins WK dx []) ∧ IsWt H CWt Wt lo hi ∧ lo ≤ hi ∧ hi ≤ 1000 ∧ Below (hi + 2) z ∧ H PA = some (.tup [.str "work", nV a, nV b]) ∧ a ≤ b ∧ b ≤ 1000 ∧
  ∀ H' g, Frm R H H' → Bits hi (Led lo hi (.work a b)) z g → H' R = some (.ins WK dx [("watcher", .ref Wt), ("goal", nV z), ("least", nV a), ("gaps", nV g)]) → Q .non H'
theorem ok_kinit (T : TxtY K WP WK WR WE WL) {f : Addr} {fd : FuncData} (M : Mk K WK f) (hm : mg "WorkWay" = some (.ref WK)) (F : C8.Fun K "__init__" "WorkWay.__init__" s_WorkWay_init f fd) (b : Binds K fd ["self", "watcher", "plan", "goal"] []) (m_gaw : C8.Met P w K mg base 2 CWt "gaps_ahead_of_work" (sp_gaw CWt) []) : C8.Mak P w K mg base 3 "WorkWay" WK (sp_kinit K CWt WK) [] := by
  refine C8.mak0 M hm F b .nil sc_WorkWay_init (fun vs H Q E h => ?_) fun cdv A outer s H vs Q E hr h => ?_
  · obtain ⟨R, dx, Wt, PA, lo, hi, z, a, b, rfl, _⟩ := h; rfl
  · obtain ⟨R, dx, Wt, PA, lo, hi, z, a, b, rfl, hR, ⟨dw, hW⟩, l1, l2, hb, hP, l3, l4, q⟩ := h
    have nd := sc_WorkWay_init.nd
    have nRW : Wt ≠ R := ne_of hW hR (fun z => nomatch z)
    have nRP : PA ≠ R := ne_of hP hR (fun z => nomatch z)
    refine ⟨_, (pss_cons (ps_fld (pv 0) (pv 1) rfl)
      (pss_cons (ps_fld (pv 0) (pv 3) rfl)
      (pss_cons (ps_fld (pv 0) (pe_ix (r := rIxT K) ix_tup (pv 2) pe_int (fun _ _ => rfl)) rfl)
      (pss_one (ps_fld (pv 0) (C8.pe_mt m_gaw hr (by first | decide | exact Nat.le_refl _ | omega) (pv 1) (pa_cons (pv 3) (pa_cons (pe_ix (r := rIxT K) ix_tup (pv 2) pe_int (fun _ _ => rfl)) (pa_cons (pe_ix (r := rIxT K) ix_tup (pv 2) pe_int (fun _ _ => rfl)) pa_nil)))) rfl))))), ?_⟩
    walk_at "go"
    refine g_sfld ?_
    walk_at "go"
    refine ⟨R, WK, dx, _, rfl, hR, T.cK, T.kW, by decide, ?_⟩
    have f1 : Frm R H (upd H R (HO.ins WK dx (putF ("watcher" : Str) (V.ref Wt) []))) := .set
    have e1 := upd_same (H := H) (a := R) (o := HO.ins WK dx (putF ("watcher" : Str) (V.ref Wt) []))
    generalize upd H R (HO.ins WK dx (putF ("watcher" : Str) (V.ref Wt) [])) = H1 at f1 e1
    walk_at "go"
    refine g_sfld ?_
    walk_at "go"
    refine ⟨R, WK, dx, _, rfl, e1, T.cK, T.kO, by show 1 < 1000; decide, ?_⟩
    have f2 := f1.trans (.set (o := HO.ins WK dx (putF ("goal" : Str) (nV z) (putF ("watcher" : Str) (V.ref Wt) []))))
    have e2 := upd_same (H := H1) (a := R) (o := HO.ins WK dx (putF ("goal" : Str) (nV z) (putF ("watcher" : Str) (V.ref Wt) [])))
    generalize upd H1 R (HO.ins WK dx (putF ("goal" : Str) (nV z) (putF ("watcher" : Str) (V.ref Wt) []))) = H2 at f2 e2
    walk_at "go"
    refine g_sfld ?_
    walk_at "go"
    refine g_ixT (SqT.of (f2 _ _ nRP hP)) rfl ?_
    walk_at "go"
    refine ⟨R, WK, dx, _, rfl, e2, T.cK, T.kL, by show 2 < 1000; decide, ?_⟩
    have f3 := f2.trans (.set (o := HO.ins WK dx (putF ("least" : Str) (nV a) (putF ("goal" : Str) (nV z) (putF ("watcher" : Str) (V.ref Wt) [])))))
    have e3 := upd_same (H := H2) (a := R) (o := HO.ins WK dx (putF ("least" : Str) (nV a) (putF ("goal" : Str) (nV z) (putF ("watcher" : Str) (V.ref Wt) []))))
    generalize upd H2 R (HO.ins WK dx (putF ("least" : Str) (nV a) (putF ("goal" : Str) (nV z) (putF ("watcher" : Str) (V.ref Wt) [])))) = H3 at f3 e3
    walk_at "go"
    refine g_sfld ?_
    walk_at "go"
    refine ⟨_, rfl, Wt, dw, _, rfl, f3 _ _ nRW hW, rfl, ?_⟩
    walk_at "go"
    refine g_ixT (SqT.of (f3 _ _ nRP hP)) rfl ?_
    walk_at "go"
    refine g_ixT (SqT.of (f3 _ _ nRP hP)) rfl ?_
    walk_at "go"
    refine ⟨Wt, lo, hi, z, a, b, rfl, ⟨dw, f3 _ _ nRW hW⟩, l1, l2, hb, l3, l4, fun g hg => ?_⟩
    walk_at "go"
    refine ⟨R, WK, dx, _, rfl, e3, T.cK, T.kG, by show 3 < 1000; decide, ?_⟩
    exact q _ g (f3.trans .set) hg upd_same
end
end K02
namespace K02
open PySem PySem.Spec PyProof.Rows L2 Wd RT
local macro_rules | `(tactic| walk_at "gs") => `(tactic| repeat (first
  | with_reducible refine Wd.g_seq ?_
  | ((with_reducible show L2.Ends.nx _ _ _); (with_reducible refine Wd.g_nx ?_))
  | with_reducible refine Wd.g_asg ?_
  | ((with_reducible refine' Wd.g_var ?h1 ?_); (case h1 => exact rfl))
  | with_reducible refine Wd.g_c ?_
  | with_reducible refine Wd.g_op ?_
  | with_reducible refine Wd.g_un ?_
  | with_reducible refine Wd.g_I0 ?_
  | with_reducible refine Wd.g_U ?_
  | with_reducible refine Wd.g_eqI ?_
  | with_reducible refine Wd.g_neI ?_
  | with_reducible refine Wd.g_eqS ?_
  | with_reducible refine Wd.g_neS ?_
  | with_reducible refine Wd.g_eqB ?_
  | with_reducible refine Wd.g_neB ?_
  | with_reducible refine Wd.g_isN ?_
  | with_reducible refine Wd.g_notN ?_
  | with_reducible refine Wd.g_lc ?_
  | with_reducible refine Wd.g_yes ?_
  | with_reducible refine Wd.g_test ?_
  | with_reducible refine Wd.g_tB ?_
  | with_reducible refine Wd.g_bl ?_
  | with_reducible refine Wd.g_blI ?_
  | with_reducible refine Wd.g_and ?_
  | with_reducible refine Wd.g_or ?_
  | with_reducible refine Wd.g_not ?_
  | with_reducible refine Wd.g_andV ?_
  | with_reducible refine Wd.g_orV ?_
  | with_reducible refine Wd.g_notV ?_
  | with_reducible refine Wd.g_if ?_
  | with_reducible refine Wd.g_chain ?_
  | with_reducible refine Wd.g_chain3 ?_
  | with_reducible refine Wd.g_nil ?_
  | with_reducible refine Wd.g_cons ?_
  | with_reducible refine Wd.g_tup ?_
  | with_reducible refine Wd.g_lst ?_
  | with_reducible refine Wd.g_CB ?_
  | with_reducible refine Wd.g_call ?_
  | with_reducible refine Wd.g_callS ?_
  | with_reducible refine Wd.g_bm ?_
  | with_reducible refine Wd.g_bm0 ?_
  | with_reducible refine Wd.g_sl ?_
  | with_reducible refine Wd.g_part ?_
  | with_reducible refine Wd.g_part1 ?_
  | with_reducible refine Wd.g_noPart ?_
  | with_reducible refine Wd.g_next ?_
  | with_reducible refine Wd.g_name ?_
  | with_reducible refine Wd.g_sub ?_
  | with_reducible refine Wd.g_gnil ?_
  | with_reducible refine Wd.g_gcons ?_
  | with_reducible refine Wd.g_drop ?_
  | with_reducible refine Wd.g_ret ?_
  | with_reducible refine Wd.g_retN ?_
  | with_reducible refine Wd.g_brk ?_
  | with_reducible refine Wd.g_cont ?_
  | ((with_reducible show L2.Ends.bk _ _ _); (with_reducible refine Wd.g_bk ?_))
  | ((with_reducible show L2.Ends.ct _ _ _); (with_reducible refine Wd.g_ct ?_))
  | ((with_reducible show L2.Ends.rt _ _ _); (with_reducible refine Wd.g_rt ?_))
  | with_reducible refine Wd.g_for ?_
  | with_reducible refine Wd.g_rng1 ?_
  | with_reducible refine Wd.g_rng2 ?_
  | with_reducible refine Wd.g_iList ?_
  | with_reducible refine Wd.g_iTup ?_
  | ((with_reducible refine Wd.g_fit ?h1 ?_); (case h1 => exact rfl))
  | with_reducible refine Wd.g_max2 ?_
  | with_reducible refine Wd.g_min2 ?_
  | with_reducible refine Wd.g_int1B ?_
  | with_reducible refine L2.iteT ?_
  | with_reducible refine L2.iteF ?_
  | ((with_reducible refine Wd.g_itT ?h1 ?_); (case h1 => exact rfl))
  | ((with_reducible refine Wd.g_itF ?h1 ?_); (case h1 => exact rfl))))
section
variable {σ : L2.St} {H : Hp} {K : PySem.W.Frag}
theorem g_rev {te : TE} {R : It → Hp → Prop} (h : te σ H fun v H1 => ∃ (a : Addr) (xs : List V), v = .ref a ∧ ((SqL K H1 a xs ∧ R (Itv K a xs.length) H1) ∨ (SqT K H1 a xs ∧ R (ItvT K a xs.length) H1))) : iRevA K te σ H R := h
theorem w_revT {a : L2.St → Hp → Prop} {b : VK} {g : TG} {tb : TS} {p : Addr} {xs : List V} (Pv : Nat → L2.St → Hp → Prop) (h0 : Pv 0 σ H) (hq : ∀ i σ H, Pv i σ H → SqT K H p xs)
    (hs : ∀ (i : Nat) (x : V) (σ : L2.St) (H : Hp), i < xs.length → xs[xs.length - 1 - i]? = some x → Pv i σ H → g x σ H fun σ2 H2 => tb ⟨Pv (i + 1), b, a, Pv (i + 1)⟩ σ2 H2) (hd : ∀ σ H, Pv xs.length σ H → a σ H) :
    ∃ (q : Addr) (ys : List V), V.ref p = .ref q ∧ ((SqL K H q ys ∧ ForEnd g tb a b σ (Itv K q ys.length) H) ∨ (SqT K H q ys ∧ ForEnd g tb a b σ (ItvT K q ys.length) H)) :=
  ⟨p, xs, rfl, .inr ⟨hq 0 σ H h0, for_ItvT (D := ⟨a, b, fun _ _ => False, fun _ _ => False⟩) Pv h0 hq hs hd⟩⟩
theorem w_revL {a : L2.St → Hp → Prop} {b : VK} {g : TG} {tb : TS} {p : Addr} {xs : List V} (Pv : Nat → L2.St → Hp → Prop) (h0 : Pv 0 σ H) (hq : ∀ i σ H, Pv i σ H → SqL K H p xs)
    (hs : ∀ (i : Nat) (x : V) (σ : L2.St) (H : Hp), i < xs.length → xs[xs.length - 1 - i]? = some x → Pv i σ H → g x σ H fun σ2 H2 => tb ⟨Pv (i + 1), b, a, Pv (i + 1)⟩ σ2 H2) (hd : ∀ σ H, Pv xs.length σ H → a σ H) :
    ∃ (q : Addr) (ys : List V), V.ref p = .ref q ∧ ((SqL K H q ys ∧ ForEnd g tb a b σ (Itv K q ys.length) H) ∨ (SqT K H q ys ∧ ForEnd g tb a b σ (ItvT K q ys.length) H)) :=
  ⟨p, xs, rfl, .inl ⟨hq 0 σ H h0, for_Itv (D := ⟨a, b, fun _ _ => False, fun _ _ => False⟩) Pv h0 hq hs hd⟩⟩
end
/-- what a way holds of its gaps -/
theorem WayA.at_ {K : PySem.W.Frag} {Y : Wy} {N : Addr → Prop} {H : Hp} {v : V} {p : Pl} {z g : Nat} (T : TxtY K Y.WP Y.WK Y.WR Y.WE Y.WL) (h : WayA Y N H v p z g) :
    ∃ R C dx fs, v = .ref R ∧ H R = some (.ins C dx fs) ∧ C ∈ [Y.WP, Y.WK, Y.WR, Y.WE, Y.WL] ∧ Cls K C ∧ NoAttr K C "gaps" ∧ fs.lookup ("gaps" : Str) = some (nV g) ∧ fs.lookup ("lead" : Str) = none := by
  cases h with
  | pat h _ _ => exact ⟨_, _, _, _, rfl, h, by simp, T.cP, T.pG, rfl, rfl⟩
  | work h _ _ => exact ⟨_, _, _, _, rfl, h, by simp, T.cK, T.kG, rfl, rfl⟩
  | row h _ _ _ _ _ => exact ⟨_, _, _, _, rfl, h, by simp, T.cR, T.rG, rfl, rfl⟩
  | either h _ _ _ _ _ => exact ⟨_, _, _, _, rfl, h, by simp, T.cE, T.eG, rfl, rfl⟩
  | loop h _ _ _ _ _ _ _ _ => exact ⟨_, _, _, _, rfl, h, by simp, T.cL, T.lG, rfl, rfl⟩
theorem bits_below {hi : Nat} {F : (Nat → Prop) → Nat → Prop} {z g : Nat} (h : Bits hi F z g) : Below (hi + 2) g := h.low
theorem led_inS {hi : Nat} {F : (Nat → Prop) → Nat → Prop} {z g : Nat} (h : Bits hi F z g) : ∀ i, i ≤ hi + 1 → (inS g i ↔ F (inS z) i) := h.bit
mutual
/-- only the gaps up to one beyond high count -/
theorem Led.congr {lo hi : Nat} : ∀ (p : Pl) {G G' : Nat → Prop}, (∀ i, i ≤ hi + 1 → G i → G' i) → ∀ i, i ≤ hi + 1 → Led lo hi p G i → Led lo hi p G' i
  | .pat, G, G', h, i, hi', x => by unfold Led at x ⊢; exact h _ gP_le x
  | .work a b, G, G', h, i, hi', x => by
    unfold Led at x ⊢
    obtain ⟨d, h1, h2, h3⟩ := x
    exact ⟨d, h1, h2, h _ gW_le h3⟩
  | .row ps, G, G', h, i, hi', x => by unfold Led at x ⊢; exact Leds.congr ps h i hi' x
  | .either ps, G, G', h, i, hi', x => by unfold Led at x ⊢; exact LedE.congr ps h i hi' x
  | .loop a b p, G, G', h, i, hi', x => by
    unfold Led at x ⊢
    obtain ⟨n, h1, h2, h3⟩ := x
    refine ⟨n, h1, h2, ?_⟩
    have it : ∀ n j, j ≤ hi + 1 → iterP (Led lo hi p) n G j → iterP (Led lo hi p) n G' j := fun n => by
      induction n with
      | zero => exact h
      | succ n ih => exact fun j hj y => Led.congr p ih j hj y
    exact it n i hi' h3
theorem Leds.congr {lo hi : Nat} : ∀ (ps : List Pl) {G G' : Nat → Prop}, (∀ i, i ≤ hi + 1 → G i → G' i) → ∀ i, i ≤ hi + 1 → Leds lo hi ps G i → Leds lo hi ps G' i
  | [], G, G', h, i, hi', x => by unfold Leds at x ⊢; exact h i hi' x
  | p :: ps, G, G', h, i, hi', x => by unfold Leds at x ⊢; exact Led.congr p (Leds.congr ps h) i hi' x
theorem LedE.congr {lo hi : Nat} : ∀ (ps : List Pl) {G G' : Nat → Prop}, (∀ i, i ≤ hi + 1 → G i → G' i) → ∀ i, i ≤ hi + 1 → LedE lo hi ps G i → LedE lo hi ps G' i
  | [], G, G', h, i, hi', x => by unfold LedE at x; exact x.elim
  | p :: ps, G, G', h, i, hi', x => by unfold LedE at x ⊢; exact x.imp (Led.congr p h i hi') (LedE.congr ps h i hi')
end
theorem bits_cons {lo hi : Nat} {p : Pl} {ps : List Pl} {z g g2 : Nat} (h1 : Bits hi (Leds lo hi ps) z g) (h2 : Bits hi (Led lo hi p) g g2) : Bits hi (Leds lo hi (p :: ps)) z g2 :=
  ⟨h2.low, fun i hi' => by
    rw [h2.bit i hi']
    show Led lo hi p (inS g) i ↔ Leds lo hi (p :: ps) (inS z) i
    unfold Leds
    exact ⟨Led.congr p (fun j hj x => (h1.bit j hj).mp x) i hi', Led.congr p (fun j hj x => (h1.bit j hj).mpr x) i hi'⟩⟩
theorem bits_nil {lo hi z : Nat} (hb : Below (hi + 2) z) : Bits hi (Leds lo hi []) z z := ⟨hb, fun i _ => by show _ ↔ Leds lo hi [] (inS z) i; unfold Leds; exact Iff.rfl⟩
section
variable {P : Program} {w : World} {K : PySem.W.Frag} {mg : Str → Option Value} {base : Heap} {CWt WP WK WR WE WL : Addr}
/-- the way of a plan of a depth -/
def sp_way (CWt WP WK WR WE WL : Addr) (n : Nat) : Sp := fun vs H Q _ => ∃ (Wt : Addr) (lo hi : Nat) (v : V) (p : Pl) (l z : Nat), vs = [.ref Wt, v, nV z] ∧ IsWt H CWt Wt lo hi ∧ lo ≤ hi ∧ hi ≤ 1000 ∧ PlA H v p ∧ okP n l p ∧ Below (hi + 2) z ∧
  ∀ H' u g, Same H H' → WayA ⟨WP, WK, WR, WE, WL, Wt, lo, hi⟩ (fun a => H a ≠ none) H' u p z g → Q u H'
abbrev s_RowWay_init : Stmt := (C8.clsBody (top 36)).getD 0 (.Pass ⟨0, 0, 0, 0⟩)
theorem sc_RowWay_init : FnScope ["self", "watcher", "plan", "goal", "part", "way"] ["self", "watcher", "plan", "goal"] (C8.fnScope s_RowWay_init) := C8.fnScope_by (by decide +kernel)
def sp_rinit (CWt WP WK WR WE WL : Addr) (n : Nat) : Sp := fun vs H Q _ => ∃ (N : Addr → Prop) (R dx Wt PA UA : Addr) (us : List V) (ps : List Pl) (lo hi l z : Nat), vs = [.ref R, .ref Wt, .ref PA, nV z] ∧ H R = some (.ins WR dx []) ∧ IsWt H CWt Wt lo hi ∧ lo ≤ hi ∧ hi ≤ 1000 ∧ Below (hi + 2) z ∧
  H PA = some (.tup [.str "row", .ref UA]) ∧ H UA = some (.tup us) ∧ PlAs H us ps ∧ okPs n l ps ∧ ps.length ≤ 20 ∧ (∀ a, N a → H a ≠ none) ∧ ¬ N R ∧ ∀ H' g, Frm R H H' → WayA ⟨WP, WK, WR, WE, WL, Wt, lo, hi⟩ N H' (.ref R) (.row ps) z g → Q .non H'
theorem ok_rinit {n : Nat} (T2 : TxtY K WP WK WR WE WL) (T : TxtJ K mg) {f : Addr} {fd : FuncData} (M : Mk K WR f) (hm : mg "RowWay" = some (.ref WR)) (F : C8.Fun K "__init__" "RowWay.__init__" s_RowWay_init f fd) (b : Binds K fd ["self", "watcher", "plan", "goal"] []) (g_way_to : C8.Cal P w K mg base (5 + 3 * n) "way_to" (sp_way CWt WP WK WR WE WL n) []) : C8.Mak P w K mg base (6 + 3 * n) "RowWay" WR (sp_rinit CWt WP WK WR WE WL n) [] := by
  have lv : 6 + 3 * n = (5 + 3 * n) + 1 := by omega
  rw [lv]
  refine C8.mak0 M hm F b .nil sc_RowWay_init (fun vs H Q E h => ?_) fun cdv A outer s H vs Q E hr h => ?_
  · obtain ⟨N, R, dx, Wt, PA, UA, us, ps, lo, hi, l, z, rfl, _⟩ := h; rfl
  · obtain ⟨N, R, dx, Wt, PA, UA, us, ps, lo, hi, l, z, rfl, hR, ⟨dw, hW⟩, l1, l2, hb, hP, hU, pa, ok, pl, nH, nR, q⟩ := h
    have nd := sc_RowWay_init.nd
    have nRW : Wt ≠ R := ne_of hW hR (fun z => nomatch z)
    have nRP : PA ≠ R := ne_of hP hR (fun z => nomatch z)
    have nRU : UA ≠ R := ne_of hU hR (fun z => nomatch z)
    refine ⟨_, (pss_cons (ps_fld (pv 0) (pe_lst pa_nil) rfl)
      (pss_cons (ps_for PassesOwn.never rfl (pi_revA (by rfl) T.n_reversed (pe_ix (r := rIxT K) ix_tup (pv 2) pe_int (fun _ _ => rfl))) (pg_name (i := 4) nd rfl (Or.inl rfl)) (pss_cons (ps_set (i := 5) nd rfl (Or.inl rfl) (C8.pe_c g_way_to hr (by first | decide | exact Nat.le_refl _ | omega) (by rfl) (pa_cons (pv 1) (pa_cons (pv 4) (pa_cons (pv 3) pa_nil)))))
      (pss_cons (ps_expr (pe_bmK (K := K) rfl PySem.F.plainAttrs_list PySem.F.slot_list_append PySem.F.type_list_append mt_append (pe_fld (pv 0) rfl) (pa_cons (pv 5) pa_nil)))
      (pss_one (ps_set (i := 3) nd rfl (Or.inl rfl) (pe_fld (pv 5) rfl))))))
      (pss_one (ps_fld (pv 0) (pv 3) rfl)))), ?_⟩
    walk_at "go"
    refine g_sfld ?_
    walk_at "go"
    intro L hL
    have sL := same_new (o := .lst []) hL
    have eL := upd_same (H := H) (a := L) (o := .lst [])
    have nLR : L ≠ R := fun z => by rw [z, hR] at hL; cases hL
    generalize upd H L (.lst []) = H1 at sL eL
    walk_at "go"
    refine ⟨R, WR, dx, _, rfl, sL _ _ hR, T2.cR, T2.rY, by decide, ?_⟩
    have f2 : Frm R H (upd H1 R (HO.ins WR dx (putF ("ways" : Str) (V.ref L) []))) := (Frm.of sL).trans .set
    have e2 := upd_same (H := H1) (a := R) (o := HO.ins WR dx (putF ("ways" : Str) (V.ref L) []))
    have g2 : upd H1 R (HO.ins WR dx (putF ("ways" : Str) (V.ref L) [])) L = some (.lst []) := by rw [upd_ne nLR]; exact eL
    generalize upd H1 R (HO.ins WR dx (putF ("ways" : Str) (V.ref L) [])) = H2 at f2 e2 g2
    have pul := pa.len
    walk_at "go"
    refine g_rev ?_
    walk_at "go"
    refine g_ixT (SqT.of (f2 _ _ nRP hP)) rfl ?_
    refine w_revT (xs := us) (fun i σ H' => ∃ (vs : List V) (g : Nat) (v4 v5 : Option V), σ = [some (.ref R), some (.ref Wt), some (.ref PA), some (nV g), v4, v5] ∧ Frm R H H' ∧ H' R = some (.ins WR dx [("ways", .ref L)]) ∧ H' L = some (.lst vs) ∧ vs.length = i ∧
      WaysR ⟨WP, WK, WR, WE, WL, Wt, lo, hi⟩ (fun a => N a ∨ a = L ∨ a = R) H' vs (ps.drop (ps.length - i)) z g ∧ Bits hi (Leds lo hi (ps.drop (ps.length - i))) z g) ?_ ?_ ?_ ?_
    · exact ⟨[], z, _, _, rfl, f2, e2, g2, rfl, by rw [Nat.sub_zero, List.drop_length]; exact .nil, by rw [Nat.sub_zero, List.drop_length]; exact bits_nil hb⟩
    · rintro i σ H' ⟨vs, g, v4, v5, rfl, f3, _⟩
      exact SqT.of (f3 _ _ nRU hU)
    · rintro i x σ H3 hi' hx ⟨vs, g, v4, v5, rfl, f3, e3, g3, vl, wr, bt⟩
      obtain ⟨p, hp, pA⟩ := PlAs.at pa hx
      have hpl : ps.length - i = (ps.length - (i + 1)) + 1 := by omega
      have hix : us.length - 1 - i = ps.length - (i + 1) := by omega
      rw [hix] at hp
      have dp : ps.drop (ps.length - (i + 1)) = p :: ps.drop (ps.length - i) := by rw [hpl]; exact drop_at hp
      walk_at "go"
      refine ⟨Wt, lo, hi, x, p, l, g, rfl, ⟨dw, f3 _ _ nRW hW⟩, l1, l2, PlA_keep (fun b xs h => f3 _ _ (ne_of h hR (fun z => nomatch z)) h) _ _ pA, okPs_at ok hp, bt.low, fun H4 u g4 s4 wa => ?_⟩
      have e4 := s4 _ _ e3
      have g4' := s4 _ _ g3
      have sub : ∀ a, (N a ∨ a = L ∨ a = R) → H3 a ≠ none := fun a ha => by
        rcases ha with ha | rfl | rfl
        · by_cases c : a = R
          · exact absurd (c ▸ ha) nR
          · cases hq : H a with
            | none => exact absurd hq (nH a ha)
            | some o => rw [f3 _ _ c hq]; exact fun z => nomatch z
        · rw [g3]; exact fun z => nomatch z
        · rw [e3]; exact fun z => nomatch z
      have wa2 := WayA.mono sub wa
      have wr4 := WaysR.snoc (WaysR.same s4 wr) wa2
      walk_at "go"
      refine g_fldV rfl e4 T2.cR T2.rY rfl ?_
      walk_at "go"
      refine g_tyL g4' ?_
      walk_at "go"
      refine g_append g4' (by omega) ?_
      have wr5 := WaysR.keep (keepN (o := .lst (vs ++ [u])) (.inr (.inl rfl))) wr4
      obtain ⟨R', C', dx', fs', rfl, hR', _, cls', na', lk', _⟩ := WayA.at_ (K := K) (Y := ⟨WP, WK, WR, WE, WL, Wt, lo, hi⟩) T2 (WayA.keep (keepN (o := .lst (vs ++ [u])) (.inr (.inl rfl))) wa2)
      have e5 : upd H4 L (.lst (vs ++ [.ref R'])) R = some (.ins WR dx [("ways", .ref L)]) := by rw [upd_ne nLR.symm]; exact e4
      have g5 := upd_same (H := H4) (a := L) (o := .lst (vs ++ [.ref R']))
      have f5 : Frm R H (upd H4 L (.lst (vs ++ [.ref R']))) := fun b o n h => by
        rw [upd_ne (ne_of_none h hL)]; exact s4 _ _ (f3 b o n h)
      generalize upd H4 L (.lst (vs ++ [.ref R'])) = H5 at wr5 hR' e5 g5 f5 ⊢
      walk_at "go"
      refine g_fldV rfl hR' cls' na' lk' ?_
      walk_at "go"
      refine ⟨_, g4, _, _, rfl, f5, e5, g5, by rw [List.length_append, vl]; rfl, by rw [dp]; exact wr5, by rw [dp]; exact bits_cons bt wa.bits⟩
    · rintro σ H3 ⟨vs, g, v4, v5, rfl, f3, e3, g3, vl, wr, bt⟩
      rw [pul, Nat.sub_self, List.drop_zero] at wr bt
      walk_at "go"
      refine g_sfld ?_
      walk_at "go"
      refine ⟨R, WR, dx, _, rfl, e3, T2.cR, T2.rG, by show 1 < 1000; decide, ?_⟩
      have hLn : ¬ N L := fun z => nH L z hL
      refine q _ g (f3.trans .set) (.row upd_same nR (by rw [upd_ne nLR]; exact g3) hLn ?_ ?_)
      · exact WaysR.mono (fun a ha => .inl ha) (WaysR.keep (keepN (.inr (.inr rfl))) wr)
      · exact ⟨bt.low, fun i hi' => (bt.bit i hi').trans (by unfold Led; exact Iff.rfl)⟩
end
end K02
namespace K02
open PySem PySem.Spec PyProof.Rows L2 Wd RT
local macro_rules | `(tactic| walk_at "gs") => `(tactic| repeat (first
  | with_reducible refine Wd.g_seq ?_
  | ((with_reducible show L2.Ends.nx _ _ _); (with_reducible refine Wd.g_nx ?_))
  | with_reducible refine Wd.g_asg ?_
  | ((with_reducible refine' Wd.g_var ?h1 ?_); (case h1 => exact rfl))
  | with_reducible refine Wd.g_c ?_
  | with_reducible refine Wd.g_op ?_
  | with_reducible refine Wd.g_un ?_
  | with_reducible refine Wd.g_I0 ?_
  | with_reducible refine Wd.g_U ?_
  | with_reducible refine Wd.g_eqI ?_
  | with_reducible refine Wd.g_neI ?_
  | with_reducible refine Wd.g_eqS ?_
  | with_reducible refine Wd.g_neS ?_
  | with_reducible refine Wd.g_eqB ?_
  | with_reducible refine Wd.g_neB ?_
  | with_reducible refine Wd.g_isN ?_
  | with_reducible refine Wd.g_notN ?_
  | with_reducible refine Wd.g_lc ?_
  | with_reducible refine Wd.g_yes ?_
  | with_reducible refine Wd.g_test ?_
  | with_reducible refine Wd.g_tB ?_
  | with_reducible refine Wd.g_bl ?_
  | with_reducible refine Wd.g_blI ?_
  | with_reducible refine Wd.g_and ?_
  | with_reducible refine Wd.g_or ?_
  | with_reducible refine Wd.g_not ?_
  | with_reducible refine Wd.g_andV ?_
  | with_reducible refine Wd.g_orV ?_
  | with_reducible refine Wd.g_notV ?_
  | with_reducible refine Wd.g_if ?_
  | with_reducible refine Wd.g_chain ?_
  | with_reducible refine Wd.g_chain3 ?_
  | with_reducible refine Wd.g_nil ?_
  | with_reducible refine Wd.g_cons ?_
  | with_reducible refine Wd.g_tup ?_
  | with_reducible refine Wd.g_lst ?_
  | with_reducible refine Wd.g_CB ?_
  | with_reducible refine Wd.g_call ?_
  | with_reducible refine Wd.g_callS ?_
  | with_reducible refine Wd.g_bm ?_
  | with_reducible refine Wd.g_bm0 ?_
  | with_reducible refine Wd.g_sl ?_
  | with_reducible refine Wd.g_part ?_
  | with_reducible refine Wd.g_part1 ?_
  | with_reducible refine Wd.g_noPart ?_
  | with_reducible refine Wd.g_next ?_
  | with_reducible refine Wd.g_name ?_
  | with_reducible refine Wd.g_sub ?_
  | with_reducible refine Wd.g_gnil ?_
  | with_reducible refine Wd.g_gcons ?_
  | with_reducible refine Wd.g_drop ?_
  | with_reducible refine Wd.g_ret ?_
  | with_reducible refine Wd.g_retN ?_
  | with_reducible refine Wd.g_brk ?_
  | with_reducible refine Wd.g_cont ?_
  | ((with_reducible show L2.Ends.bk _ _ _); (with_reducible refine Wd.g_bk ?_))
  | ((with_reducible show L2.Ends.ct _ _ _); (with_reducible refine Wd.g_ct ?_))
  | ((with_reducible show L2.Ends.rt _ _ _); (with_reducible refine Wd.g_rt ?_))
  | with_reducible refine Wd.g_for ?_
  | with_reducible refine Wd.g_rng1 ?_
  | with_reducible refine Wd.g_rng2 ?_
  | with_reducible refine Wd.g_iList ?_
  | with_reducible refine Wd.g_iTup ?_
  | ((with_reducible refine Wd.g_fit ?h1 ?_); (case h1 => exact rfl))
  | with_reducible refine Wd.g_max2 ?_
  | with_reducible refine Wd.g_min2 ?_
  | with_reducible refine Wd.g_int1B ?_
  | with_reducible refine L2.iteT ?_
  | with_reducible refine L2.iteF ?_
  | ((with_reducible refine Wd.g_itT ?h1 ?_); (case h1 => exact rfl))
  | ((with_reducible refine Wd.g_itF ?h1 ?_); (case h1 => exact rfl))))
theorem LedE_snoc {lo hi : Nat} {G : Nat → Prop} {g : Nat} {p : Pl} : ∀ ps : List Pl, LedE lo hi (ps ++ [p]) G g ↔ LedE lo hi ps G g ∨ Led lo hi p G g
  | [] => by rw [List.nil_append]; unfold LedE LedE; exact ⟨fun h => .inr (h.elim id fun x => x.elim), fun h => h.elim (fun x => x.elim) .inl⟩
  | q :: ps => by
    rw [List.cons_append]
    show LedE lo hi (q :: (ps ++ [p])) G g ↔ LedE lo hi (q :: ps) G g ∨ _
    unfold LedE
    rw [LedE_snoc ps]
    exact or_assoc.symm
theorem WaysE.at {Y : Wy} {N : Addr → Prop} {H : Hp} : ∀ {vs : List V} {ps : List Pl} {z i : Nat} {v : V}, WaysE Y N H vs ps z → vs[i]? = some v → ∃ p g, ps[i]? = some p ∧ WayA Y N H v p z g
  | _, _, _, _, _, .nil, h => nomatch h
  | _, _, _, 0, _, .cons (g := g) a b, h => by cases h; exact ⟨_, g, rfl, a⟩
  | _, _, _, i + 1, _, .cons a b, h => WaysE.at (i := i) b h
theorem WaysE.len {Y : Wy} {N : Addr → Prop} {H : Hp} : ∀ {vs : List V} {ps : List Pl} {z : Nat}, WaysE Y N H vs ps z → vs.length = ps.length
  | _, _, _, .nil => rfl
  | _, _, _, .cons a b => congrArg (· + 1) (WaysE.len b)
theorem bits_or {hi z g g2 : Nat} {F F2 : (Nat → Prop) → Nat → Prop} (h1 : Bits hi F z g) (h2 : Bits hi F2 z g2) : Bits hi (fun G i => F G i ∨ F2 G i) z (g ||| g2) :=
  ⟨fun i h => by
    rw [tb_or, Bool.or_eq_true] at h
    exact h.elim (h1.low i) (h2.low i), fun i hi' => by
    rw [tb_or, Bool.or_eq_true]
    exact or_congr (h1.bit i hi') (h2.bit i hi')⟩
theorem bits_false {hi z : Nat} {F : (Nat → Prop) → Nat → Prop} (h : ∀ G i, ¬ F G i) : Bits hi F z 0 :=
  ⟨(fun i h => by rw [Nat.zero_testBit] at h; exact absurd h Bool.false_ne_true), fun i _ => by rw [Nat.zero_testBit]; exact ⟨(fun x => nomatch x), fun x => absurd x (h _ _)⟩⟩
theorem bits_iff {hi z g : Nat} {F F2 : (Nat → Prop) → Nat → Prop} (h1 : Bits hi F z g) (h : ∀ i, i ≤ hi + 1 → (F (inS z) i ↔ F2 (inS z) i)) : Bits hi F2 z g :=
  ⟨h1.low, fun i hi' => (h1.bit i hi').trans (h i hi')⟩
section
variable {P : Program} {w : World} {K : PySem.W.Frag} {mg : Str → Option Value} {base : Heap} {CWt WP WK WR WE WL : Addr}
abbrev s_EitherWay_init : Stmt := (C8.clsBody (top 37)).getD 0 (.Pass ⟨0, 0, 0, 0⟩)
abbrev s_EitherWay___init__ : Stmt := s_EitherWay_init
theorem sc_EitherWay_init : FnScope ["self", "watcher", "plan", "goal", "part", "way"] ["self", "watcher", "plan", "goal"] (C8.fnScope s_EitherWay_init) := C8.fnScope_by (by decide +kernel)
def sp_einit (CWt WP WK WR WE WL : Addr) (n : Nat) : Sp := fun vs H Q _ => ∃ (N : Addr → Prop) (R dx Wt PA UA : Addr) (us : List V) (ps : List Pl) (lo hi l z : Nat), vs = [.ref R, .ref Wt, .ref PA, nV z] ∧ H R = some (.ins WE dx []) ∧ IsWt H CWt Wt lo hi ∧ lo ≤ hi ∧ hi ≤ 1000 ∧ Below (hi + 2) z ∧
  H PA = some (.tup [.str "either", .ref UA]) ∧ H UA = some (.tup us) ∧ PlAs H us ps ∧ okPs n l ps ∧ ps.length ≤ 20 ∧ (∀ a, N a → H a ≠ none) ∧ ¬ N R ∧ ∀ H' g, Frm R H H' → WayA ⟨WP, WK, WR, WE, WL, Wt, lo, hi⟩ N H' (.ref R) (.either ps) z g → Q .non H'
theorem ok_einit {n : Nat} (T2 : TxtY K WP WK WR WE WL) (T : TxtJ K mg) {f : Addr} {fd : FuncData} (M : Mk K WE f) (hm : mg "EitherWay" = some (.ref WE)) (F : C8.Fun K "__init__" "EitherWay.__init__" s_EitherWay_init f fd) (b : Binds K fd ["self", "watcher", "plan", "goal"] []) (g_way_to : C8.Cal P w K mg base (5 + 3 * n) "way_to" (sp_way CWt WP WK WR WE WL n) []) : C8.Mak P w K mg base (6 + 3 * n) "EitherWay" WE (sp_einit CWt WP WK WR WE WL n) [] := by
  have lv : 6 + 3 * n = (5 + 3 * n) + 1 := by omega
  rw [lv]
  refine C8.mak0 M hm F b .nil sc_EitherWay_init (fun vs H Q E h => ?_) fun cdv A outer s H vs Q E hr h => ?_
  · obtain ⟨N, R, dx, Wt, PA, UA, us, ps, lo, hi, l, z, rfl, _⟩ := h; rfl
  · obtain ⟨N, R, dx, Wt, PA, UA, us, ps, lo, hi, l, z, rfl, hR, ⟨dw, hW⟩, l1, l2, hb, hP, hU, pa, ok, pl, nH, nR, q⟩ := h
    have nd := sc_EitherWay_init.nd
    have nRW : Wt ≠ R := ne_of hW hR (fun z => nomatch z)
    have nRP : PA ≠ R := ne_of hP hR (fun z => nomatch z)
    have nRU : UA ≠ R := ne_of hU hR (fun z => nomatch z)
    have pul := pa.len
    refine ⟨_, (pss_cons (ps_fld (pv 0) (pe_lc (own := [("part", 4)]) (g := gName 4) (tt := tYes) rfl nd (pi_tup (pe_ix (r := rIxT K) ix_tup (pv 2) pe_int (fun _ _ => rfl))) (blkOk_by (N := ["self", "watcher", "plan", "goal", "part", "way"]) (sc := C8.fnScope s_EitherWay___init__) (by decide +kernel)) (fun _ _ _ _ _ => pg_name (i := 4) nd rfl (Or.inl rfl)) (fun _ _ _ _ _ => pts_nil) (fun _ _ _ _ _ => (C8.pe_c g_way_to hr (by first | decide | exact Nat.le_refl _ | omega) (by rfl) (pa_cons (pv 1) (pa_cons (pv 4) (pa_cons (pv 3) pa_nil)))))) rfl)
      (pss_cons (ps_fld (pv 0) pe_int rfl)
      (pss_one (ps_for PassesOwn.never rfl (pi_list (pe_fld (pv 0) rfl)) (pg_name (i := 5) nd rfl (Or.inl rfl)) (pss_one (ps_fld (pv 0) (pe_op (r := rOrB) op_orB (pe_fld (pv 0) rfl) (pe_fld (pv 5) rfl)) rfl)))))), ?_⟩
    walk_at "go"
    refine g_sfld ?_
    walk_at "go"
    refine g_ixT (SqT.of hP) rfl ?_
    refine w_lcTup (xs := us) (SqT.of hU) (fun D i H' => Same H H' ∧ ∃ vs, H' D = some (.lst vs) ∧ WaysE ⟨WP, WK, WR, WE, WL, Wt, lo, hi⟩ (fun a => N a ∨ a = D ∨ a = R) H' vs (ps.take i) z) ?_ ?_ ?_ ?_
    · intro D hD
      exact ⟨same_new hD, [], upd_same, .nil⟩
    · rintro D i H' hD _ ⟨s2, _⟩
      exact SqT.of (s2 _ _ hU)
    · rintro D i v H' hD hv ⟨s2, vs, eD, wr⟩
      obtain ⟨p, hp, pA⟩ := pa.at hv
      have hi' : i < ps.length := (List.getElem?_eq_some_iff.mp hp).1
      walk_at "go"
      refine ⟨rfl, ?_⟩
      walk_at "go"
      refine ⟨Wt, lo, hi, v, p, l, z, rfl, ⟨dw, s2 _ _ hW⟩, l1, l2, PlA_keep (keepT_same s2) _ _ pA, okPs_at ok hp, hb, fun H4 u g4 s4 wa => ?_⟩
      have sub : ∀ a, (N a ∨ a = D ∨ a = R) → H' a ≠ none := fun a ha => by
        rcases ha with ha | rfl | rfl
        · cases hq : H a with
          | none => exact absurd hq (nH a ha)
          | some o => rw [s2 _ _ hq]; exact fun z => nomatch z
        · rw [eD]; exact fun z => nomatch z
        · rw [s2 _ _ hR]; exact fun z => nomatch z
      have w4 := WaysE.snoc (WaysE.same s4 wr) (WayA.mono sub wa)
      have ll := wr.len
      rw [List.length_take] at ll
      refine ⟨vs, s4 _ _ eD, small_lt (by omega), Same.mut (s2.trans s4) hD, vs ++ [u], upd_same, ?_⟩
      rw [take_snoc hp]
      exact WaysE.keep (keepN (.inr (.inl rfl))) w4
    · rintro D H1 hD ⟨s1, vs, eD, wr⟩
      rw [pul, List.take_length] at wr
      have nDR : D ≠ R := fun z => by rw [z, hR] at hD; cases hD
      have nD : ¬ N D := fun z => nH D z hD
      walk_at "go"
      refine ⟨R, WE, dx, _, rfl, s1 _ _ hR, T2.cE, T2.eY, by decide, ?_⟩
      have f2 : Frm R H (upd H1 R (HO.ins WE dx (putF ("ways" : Str) (V.ref D) []))) := (Frm.of s1).trans .set
      have e2 := upd_same (H := H1) (a := R) (o := HO.ins WE dx (putF ("ways" : Str) (V.ref D) []))
      have g2 : upd H1 R (HO.ins WE dx (putF ("ways" : Str) (V.ref D) [])) D = some (.lst vs) := by rw [upd_ne nDR]; exact eD
      have w2 := WaysE.keep (keepN (o := HO.ins WE dx (putF ("ways" : Str) (V.ref D) [])) (.inr (.inr rfl))) wr
      generalize upd H1 R (HO.ins WE dx (putF ("ways" : Str) (V.ref D) [])) = H2 at f2 e2 g2 w2
      walk_at "go"
      refine g_sfld ?_
      walk_at "go"
      refine ⟨R, WE, dx, _, rfl, e2, T2.cE, T2.eG, by show 1 < 1000; decide, ?_⟩
      have f3 : Frm R H (upd H2 R (HO.ins WE dx (putF ("gaps" : Str) (nV 0) (putF ("ways" : Str) (V.ref D) [])))) := f2.trans .set
      have e3 := upd_same (H := H2) (a := R) (o := HO.ins WE dx (putF ("gaps" : Str) (nV 0) (putF ("ways" : Str) (V.ref D) [])))
      have g3 : upd H2 R (HO.ins WE dx (putF ("gaps" : Str) (nV 0) (putF ("ways" : Str) (V.ref D) []))) D = some (.lst vs) := by rw [upd_ne nDR]; exact g2
      have w3 := WaysE.keep (keepN (o := HO.ins WE dx (putF ("gaps" : Str) (nV 0) (putF ("ways" : Str) (V.ref D) []))) (.inr (.inr rfl))) w2
      walk_at "go"
      refine g_fldV rfl e3 T2.cE T2.eY rfl ?_
      generalize upd H2 R (HO.ins WE dx (putF ("gaps" : Str) (nV 0) (putF ("ways" : Str) (V.ref D) []))) = H3 at f3 e3 g3 w3
      have vl := w3.len
      refine w_list (xs := vs) (fun i σ H' => ∃ (g : Nat) (v4 v5 : Option V), σ = [some (.ref R), some (.ref Wt), some (.ref PA), some (nV z), v4, v5] ∧ Frm R H H' ∧ H' R = some (.ins WE dx [("ways", .ref D), ("gaps", nV g)]) ∧ H' D = some (.lst vs) ∧
        WaysE ⟨WP, WK, WR, WE, WL, Wt, lo, hi⟩ (fun a => N a ∨ a = D ∨ a = R) H' vs ps z ∧ Bits hi (LedE lo hi (ps.take i)) z g) ?_ ?_ ?_ ?_
      · exact ⟨0, _, _, rfl, f3, e3, g3, w3, bits_false fun G i x => by rw [List.take_zero] at x; unfold LedE at x; exact x⟩
      · rintro i σ H' _ ⟨g, v4, v5, rfl, f4, e4, g4, w4, bt⟩
        exact SqL.of g4
      · rintro i x σ H' hx ⟨g, v4, v5, rfl, f4, e4, g4, w4, bt⟩
        obtain ⟨p, gp, hp, wa⟩ := w4.at hx
        obtain ⟨R', C', dx', fs', rfl, hR', _, cls', na', lk', _⟩ := WayA.at_ (K := K) T2 wa
        walk_at "go"
        refine g_sfld ?_
        walk_at "go"
        refine g_fldV rfl e4 T2.cE T2.eG rfl ?_
        walk_at "go"
        refine g_fldV rfl hR' cls' na' lk' ?_
        refine ⟨g, gp, rfl, rfl, ?_⟩
        walk_at "go"
        refine ⟨R, WE, dx, _, rfl, e4, T2.cE, T2.eG, by show 2 < 1000; decide, ?_⟩
        refine ⟨g ||| gp, _, _, rfl, f4.trans .set, upd_same, by rw [upd_ne nDR]; exact g4, WaysE.keep (keepN (.inr (.inr rfl))) w4, ?_⟩
        refine bits_iff (bits_or bt wa.bits) fun j _ => ?_
        rw [take_snoc hp]
        exact (LedE_snoc _).symm
      · rintro σ H' ⟨g, v4, v5, rfl, f4, e4, g4, w4, bt⟩
        rw [vl, List.take_length] at bt
        walk_at "go"
        refine q _ g f4 (.either e4 nR g4 nD (WaysE.mono (fun a ha => .inl ha) w4) ?_)
        exact bits_iff bt fun j _ => by unfold Led; exact Iff.rfl
end
end K02
namespace K02
open PySem PySem.Spec PyProof.Rows L2 Wd RT
local macro_rules | `(tactic| walk_at "gs") => `(tactic| repeat (first
  | with_reducible refine Wd.g_seq ?_
  | ((with_reducible show L2.Ends.nx _ _ _); (with_reducible refine Wd.g_nx ?_))
  | with_reducible refine Wd.g_asg ?_
  | ((with_reducible refine' Wd.g_var ?h1 ?_); (case h1 => exact rfl))
  | with_reducible refine Wd.g_c ?_
  | with_reducible refine Wd.g_op ?_
  | with_reducible refine Wd.g_un ?_
  | with_reducible refine Wd.g_I0 ?_
  | with_reducible refine Wd.g_U ?_
  | with_reducible refine Wd.g_eqI ?_
  | with_reducible refine Wd.g_neI ?_
  | with_reducible refine Wd.g_eqS ?_
  | with_reducible refine Wd.g_neS ?_
  | with_reducible refine Wd.g_eqB ?_
  | with_reducible refine Wd.g_neB ?_
  | with_reducible refine Wd.g_isN ?_
  | with_reducible refine Wd.g_notN ?_
  | with_reducible refine Wd.g_lc ?_
  | with_reducible refine Wd.g_yes ?_
  | with_reducible refine Wd.g_test ?_
  | with_reducible refine Wd.g_tB ?_
  | with_reducible refine Wd.g_bl ?_
  | with_reducible refine Wd.g_blI ?_
  | with_reducible refine Wd.g_and ?_
  | with_reducible refine Wd.g_or ?_
  | with_reducible refine Wd.g_not ?_
  | with_reducible refine Wd.g_andV ?_
  | with_reducible refine Wd.g_orV ?_
  | with_reducible refine Wd.g_notV ?_
  | with_reducible refine Wd.g_if ?_
  | with_reducible refine Wd.g_chain ?_
  | with_reducible refine Wd.g_chain3 ?_
  | with_reducible refine Wd.g_nil ?_
  | with_reducible refine Wd.g_cons ?_
  | with_reducible refine Wd.g_tup ?_
  | with_reducible refine Wd.g_lst ?_
  | with_reducible refine Wd.g_CB ?_
  | with_reducible refine Wd.g_call ?_
  | with_reducible refine Wd.g_callS ?_
  | with_reducible refine Wd.g_bm ?_
  | with_reducible refine Wd.g_bm0 ?_
  | with_reducible refine Wd.g_sl ?_
  | with_reducible refine Wd.g_part ?_
  | with_reducible refine Wd.g_part1 ?_
  | with_reducible refine Wd.g_noPart ?_
  | with_reducible refine Wd.g_next ?_
  | with_reducible refine Wd.g_name ?_
  | with_reducible refine Wd.g_sub ?_
  | with_reducible refine Wd.g_gnil ?_
  | with_reducible refine Wd.g_gcons ?_
  | with_reducible refine Wd.g_drop ?_
  | with_reducible refine Wd.g_ret ?_
  | with_reducible refine Wd.g_retN ?_
  | with_reducible refine Wd.g_brk ?_
  | with_reducible refine Wd.g_cont ?_
  | ((with_reducible show L2.Ends.bk _ _ _); (with_reducible refine Wd.g_bk ?_))
  | ((with_reducible show L2.Ends.ct _ _ _); (with_reducible refine Wd.g_ct ?_))
  | ((with_reducible show L2.Ends.rt _ _ _); (with_reducible refine Wd.g_rt ?_))
  | with_reducible refine Wd.g_for ?_
  | with_reducible refine Wd.g_rng1 ?_
  | with_reducible refine Wd.g_rng2 ?_
  | with_reducible refine Wd.g_iList ?_
  | with_reducible refine Wd.g_iTup ?_
  | ((with_reducible refine Wd.g_fit ?h1 ?_); (case h1 => exact rfl))
  | with_reducible refine Wd.g_max2 ?_
  | with_reducible refine Wd.g_min2 ?_
  | with_reducible refine Wd.g_int1B ?_
  | with_reducible refine L2.iteT ?_
  | with_reducible refine L2.iteF ?_
  | ((with_reducible refine Wd.g_itT ?h1 ?_); (case h1 => exact rfl))
  | ((with_reducible refine Wd.g_itF ?h1 ?_); (case h1 => exact rfl))))
theorem atI_back {xs : List V} {v : V} (h : xs[xs.length - 1]? = some v) : atI xs (-1) = some v := by
  have hp : 0 < xs.length := by
    rcases Nat.eq_zero_or_pos xs.length with e | e
    · have : xs = [] := List.length_eq_zero_iff.mp e
      subst this; cases h
    · exact e
  obtain ⟨ys, y, rfl⟩ : ∃ ys y, xs = ys ++ [y] := ⟨xs.dropLast, xs.getLast (List.length_pos_iff.mp hp), (List.dropLast_concat_getLast _).symm⟩
  rw [List.length_append, List.length_singleton, Nat.add_sub_cancel, List.getElem?_append_right (Nat.le_refl _), Nat.sub_self] at h
  cases h
  exact atI_last _ _

theorem cut_from {α : Type} (l : List α) (f : α → V) {a : Nat} (ha : a ≤ l.length) : cutV (l.map f) (some (a : Int)) none = (l.drop a).map f := by
  unfold cutV
  rw [HT.sIx_nat, HT.sIx_none, List.length_map, Nat.min_eq_left ha, ← List.map_drop, List.take_of_length_le (by rw [List.length_map, List.length_drop]; exact Nat.le_refl _)]
theorem atN {zs : List Nat} {i g : Nat} {n : Int} (e : n = i) (h : zs[i]? = some g) : atI (zs.map nV) n = some (nV g) := by
  subst e
  exact at_of (j := i) (by omega) (by rw [List.getElem?_map, h]; rfl)
theorem WaysL.len {Y : Wy} {N : Addr → Prop} {H : Hp} : ∀ {ts : List V} {p : Pl} {z : Nat} {zs : List Nat}, WaysL Y N H ts p z zs → zs.length = ts.length + 1
  | _, _, _, _, .nil => rfl
  | _, _, _, _, .snoc a b => by rw [List.length_append, WaysL.len a, List.length_append]; rfl
theorem WaysL.last {Y : Wy} {N : Addr → Prop} {H : Hp} {ts : List V} {p : Pl} {z : Nat} {zs : List Nat} (h : WaysL Y N H ts p z zs) :
    (ts = [] ∧ zs = [z]) ∨ ∃ (ts' : List V) (v : V) (zs' : List Nat) (g g2 : Nat), ts = ts' ++ [v] ∧ zs = zs' ++ [g] ++ [g2] ∧ WaysL Y N H ts' p z (zs' ++ [g]) ∧ WayA Y N H v p g g2 := by
  cases h with
  | nil => exact .inl ⟨rfl, rfl⟩
  | snoc a b => exact .inr ⟨_, _, _, _, _, rfl, rfl, a, b⟩
theorem g_andE {c : Prop} [Decidable c] {t : TT} {σ : L2.St} {H : Hp} {A B : Hp → Prop} (hB : B H) (h : c → B H → t σ H fun b H1 => if b = true then A H1 else B H1) : if decide c = true then (t σ H fun b H1 => if b = true then A H1 else B H1) else B H := by
  by_cases x : c
  · rw [if_pos (decide_eq_true x)]; exact h x hB
  · rw [if_neg (by rw [decide_eq_false x]; exact Bool.false_ne_true)]; exact hB
/-- the goals of more turns -/
theorem WaysL.bits {Y : Wy} {N : Addr → Prop} {H : Hp} : ∀ {ts : List V} {p : Pl} {z : Nat} {zs : List Nat}, WaysL Y N H ts p z zs → Below (Y.hi + 2) z → ∀ {n g : Nat}, zs[n]? = some g → Bits Y.hi (iterP (Led Y.lo Y.hi p) n) z g
  | _, _, z, _, .nil, hb, n, g, e => by
    match n, e with
    | 0, e =>
      obtain rfl : z = g := Option.some.inj e
      exact ⟨hb, fun i _ => Iff.rfl⟩
  | _, p, z, _, .snoc (ts := ts) (zs := zs) (g := g1) (g2 := g2) a b, hb, n, g, e => by
    by_cases c : n < (zs ++ [g1]).length
    · rw [List.getElem?_append_left c] at e
      exact WaysL.bits a hb e
    · have c2 : n < (zs ++ [g1] ++ [g2]).length := (List.getElem?_eq_some_iff.mp e).1
      have en : n = (zs ++ [g1]).length := by rw [List.length_append (bs := [g2]), List.length_singleton] at c2; omega
      subst en
      rw [List.getElem?_concat_length] at e
      obtain rfl : g2 = g := Option.some.inj e
      have b1 := WaysL.bits a hb (n := zs.length) (g := g1) List.getElem?_concat_length
      rw [List.length_append, List.length_singleton]
      refine ⟨b.bits.low, fun i hi' => (b.bits.bit i hi').trans ?_⟩
      show Led Y.lo Y.hi p (inS g1) i ↔ Led Y.lo Y.hi p (iterP (Led Y.lo Y.hi p) zs.length (inS z)) i
      exact ⟨Led.congr p (fun j hj x => (b1.bit j hj).mp x) i hi', Led.congr p (fun j hj x => (b1.bit j hj).mpr x) i hi'⟩
section
variable {P : Program} {w : World} {K : PySem.W.Frag} {mg : Str → Option Value} {base : Heap} {CWt WP WK WR WE WL : Addr}
abbrev s_LoopWay_init : Stmt := (C8.clsBody (top 38)).getD 0 (.Pass ⟨0, 0, 0, 0⟩)
abbrev s_LoopWay___init__ : Stmt := s_LoopWay_init
theorem sc_LoopWay_init : FnScope ["self", "watcher", "plan", "goal", "turn", "way", "gaps"] ["self", "watcher", "plan", "goal"] (C8.fnScope s_LoopWay_init) := C8.fnScope_by (by decide +kernel)
def sp_linit (CWt WP WK WR WE WL : Addr) (n : Nat) : Sp := fun vs H Q _ => ∃ (N : Addr → Prop) (R dx Wt PA : Addr) (v : V) (p : Pl) (lo hi l z a b : Nat), vs = [.ref R, .ref Wt, .ref PA, nV z] ∧ H R = some (.ins WL dx []) ∧ IsWt H CWt Wt lo hi ∧ lo ≤ hi ∧ hi ≤ 1000 ∧ Below (hi + 2) z ∧
  H PA = some (.tup [.str "loop", nV a, nV b, v]) ∧ PlA H v p ∧ okP n l p ∧ a ≤ b ∧ b ≤ 9 ∧ (∀ a, N a → H a ≠ none) ∧ ¬ N R ∧ ∀ H' g, Frm R H H' → WayA ⟨WP, WK, WR, WE, WL, Wt, lo, hi⟩ N H' (.ref R) (.loop a b p) z g → Q .non H'
theorem ok_linit {n : Nat} (T2 : TxtY K WP WK WR WE WL) (T : TxtJ K mg) {f : Addr} {fd : FuncData} (M : Mk K WL f) (hm : mg "LoopWay" = some (.ref WL)) (F : C8.Fun K "__init__" "LoopWay.__init__" s_LoopWay_init f fd) (b : Binds K fd ["self", "watcher", "plan", "goal"] []) (g_way_to : C8.Cal P w K mg base (5 + 3 * n) "way_to" (sp_way CWt WP WK WR WE WL n) []) : C8.Mak P w K mg base (6 + 3 * n) "LoopWay" WL (sp_linit CWt WP WK WR WE WL n) [] := by
  have lv : 6 + 3 * n = (5 + 3 * n) + 1 := by omega
  rw [lv]
  refine C8.mak0 M hm F b .nil sc_LoopWay_init (fun vs H Q E h => ?_) fun cdv A outer s H vs Q E hr h => ?_
  · obtain ⟨N, R, dx, Wt, PA, v, p, lo, hi, l, z, a, b, rfl, _⟩ := h; rfl
  · obtain ⟨N, R, dx, Wt, PA, v, p, lo, hi, l, z, a, b, rfl, hR, ⟨dw, hW⟩, l1, l2, hb, hP, pA, ok, ab, b9, nH, nR, q⟩ := h
    have nd := sc_LoopWay_init.nd
    have nRW : Wt ≠ R := ne_of hW hR (fun z => nomatch z)
    have nRP : PA ≠ R := ne_of hP hR (fun z => nomatch z)
    refine ⟨_, (pss_cons (ps_fld (pv 0) (pe_ix (r := rIxT K) ix_tup (pv 2) pe_int (fun _ _ => rfl)) rfl)
      (pss_cons (ps_fld (pv 0) (pe_lst pa_nil) rfl)
      (pss_cons (ps_fld (pv 0) (pe_lst (pa_cons (pv 3) pa_nil)) rfl)
      (pss_cons (ps_for PassesOwn.never rfl (pi_range1 rfl T.n_range (pa_cons (pe_ix (r := rIxT K) ix_tup (pv 2) pe_int (fun _ _ => rfl)) pa_nil)) (pg_name (i := 4) nd rfl (Or.inl rfl)) (pss_cons (ps_if (PW.pt (pw_and (pt_cmpR op_gt (pv 4) pe_int (nomark _)) (pw_and1 (pt_cmpR op_eq (pe_ix (r := rIxL K) ix_list (pe_fld (pv 0) rfl) (pv 4) (fun _ _ => rfl)) (pe_ix (r := rIxL K) ix_list (pe_fld (pv 0) rfl) (pe_op op_sub (pv 4) pe_int) (fun _ _ => rfl)) (nomark _))))) (pss_one (ps_set (i := 5) nd rfl (Or.inl rfl) (pe_ix (r := rIxL K) ix_list (pe_fld (pv 0) rfl) (pe_un un_neg pe_int) (fun _ _ => rfl)))) (pss_one (ps_set (i := 5) nd rfl (Or.inl rfl) (C8.pe_c g_way_to hr (by first | decide | exact Nat.le_refl _ | omega) (by rfl) (pa_cons (pv 1) (pa_cons (pe_ix (r := rIxT K) ix_tup (pv 2) pe_int (fun _ _ => rfl)) (pa_cons (pe_ix (r := rIxL K) ix_list (pe_fld (pv 0) rfl) (pv 4) (fun _ _ => rfl)) pa_nil)))))))
      (pss_cons (ps_expr (pe_bmK (K := K) rfl PySem.F.plainAttrs_list PySem.F.slot_list_append PySem.F.type_list_append mt_append (pe_fld (pv 0) rfl) (pa_cons (pv 5) pa_nil)))
      (pss_one (ps_expr (pe_bmK (K := K) rfl PySem.F.plainAttrs_list PySem.F.slot_list_append PySem.F.type_list_append mt_append (pe_fld (pv 0) rfl) (pa_cons (pe_fld (pv 5) rfl) pa_nil)))))))
      (pss_cons (ps_fld (pv 0) pe_int rfl)
      (pss_one (ps_for PassesOwn.never rfl (pi_list (pe_slice (r := rSlL K) sl_list (pe_fld (pv 0) rfl) (po_some (pe_fld (pv 0) rfl)) po_none)) (pg_name (i := 6) nd rfl (Or.inl rfl)) (pss_one (ps_fld (pv 0) (pe_op (r := rOrB) op_orB (pe_fld (pv 0) rfl) (pv 6)) rfl))))))))), ?_⟩
    walk_at "gs"
    refine g_sfld ?_
    walk_at "gs"
    refine g_ixT (SqT.of hP) rfl ?_
    walk_at "gs"
    refine ⟨R, WL, dx, _, rfl, hR, T2.cL, T2.lL, by decide, ?_⟩
    have f1 : Frm R H (upd H R (HO.ins WL dx (putF ("least" : Str) (nV a) []))) := .set
    have e1 := upd_same (H := H) (a := R) (o := HO.ins WL dx (putF ("least" : Str) (nV a) []))
    generalize upd H R (HO.ins WL dx (putF ("least" : Str) (nV a) [])) = H1 at f1 e1
    walk_at "gs"
    refine g_sfld ?_
    walk_at "gs"
    intro TT hT
    have sT := same_new (o := .lst []) hT
    have eT := upd_same (H := H1) (a := TT) (o := .lst [])
    have nTR : TT ≠ R := fun z => by rw [z, e1] at hT; cases hT
    have nNT : ¬ N TT := fun z => by
      cases hq : H TT with
      | none => exact nH TT z hq
      | some o => rw [f1 _ _ nTR hq] at hT; cases hT
    have f2 := f1.trans (.of sT)
    have e2 := sT _ _ e1
    generalize upd H1 TT (.lst []) = H2 at sT eT f2 e2
    walk_at "gs"
    refine ⟨R, WL, dx, _, rfl, e2, T2.cL, T2.lT, by show 1 < 1000; decide, ?_⟩
    have f3 := f2.trans (.set (o := HO.ins WL dx (putF ("turns" : Str) (V.ref TT) (putF ("least" : Str) (nV a) []))))
    have e3 := upd_same (H := H2) (a := R) (o := HO.ins WL dx (putF ("turns" : Str) (V.ref TT) (putF ("least" : Str) (nV a) [])))
    have t3 : upd H2 R (HO.ins WL dx (putF ("turns" : Str) (V.ref TT) (putF ("least" : Str) (nV a) []))) TT = some (.lst []) := by rw [upd_ne nTR]; exact eT
    generalize upd H2 R (HO.ins WL dx (putF ("turns" : Str) (V.ref TT) (putF ("least" : Str) (nV a) []))) = H3 at f3 e3 t3
    walk_at "gs"
    refine g_sfld ?_
    walk_at "gs"
    intro O hO
    have sO := same_new (o := .lst [nV z]) hO
    have eO := upd_same (H := H3) (a := O) (o := .lst [nV z])
    have nOR : O ≠ R := fun z => by rw [z, e3] at hO; cases hO
    have nOT : O ≠ TT := fun z => by rw [z, t3] at hO; cases hO
    have nNO : ¬ N O := fun z => by
      cases hq : H O with
      | none => exact nH O z hq
      | some o => rw [f3 _ _ nOR hq] at hO; cases hO
    have f4 := f3.trans (.of sO)
    have e4 := sO _ _ e3
    have t4 := sO _ _ t3
    generalize upd H3 O (.lst [nV z]) = H4 at sO eO f4 e4 t4
    walk_at "gs"
    refine ⟨R, WL, dx, _, rfl, e4, T2.cL, T2.lO, by show 2 < 1000; decide, ?_⟩
    have f5 := f4.trans (.set (o := HO.ins WL dx (putF ("goals" : Str) (V.ref O) (putF ("turns" : Str) (V.ref TT) (putF ("least" : Str) (nV a) [])))))
    have e5 := upd_same (H := H4) (a := R) (o := HO.ins WL dx (putF ("goals" : Str) (V.ref O) (putF ("turns" : Str) (V.ref TT) (putF ("least" : Str) (nV a) []))))
    have t5 : upd H4 R (HO.ins WL dx (putF ("goals" : Str) (V.ref O) (putF ("turns" : Str) (V.ref TT) (putF ("least" : Str) (nV a) [])))) TT = some (.lst []) := by rw [upd_ne nTR]; exact t4
    have o5 : upd H4 R (HO.ins WL dx (putF ("goals" : Str) (V.ref O) (putF ("turns" : Str) (V.ref TT) (putF ("least" : Str) (nV a) [])))) O = some (.lst [nV z]) := by rw [upd_ne nOR]; exact eO
    generalize upd H4 R (HO.ins WL dx (putF ("goals" : Str) (V.ref O) (putF ("turns" : Str) (V.ref TT) (putF ("least" : Str) (nV a) [])))) = H5 at f5 e5 t5 o5
    walk_at "gs"
    refine g_ixT (SqT.of (f5 _ _ nRP hP)) rfl ?_
    walk_at "gs"
    refine w_range (by omega) (by omega) (fun i σ H' => ∃ (ts : List V) (zs : List Nat) (g : Nat) (v4 v5 v6 : Option V), σ = [some (.ref R), some (.ref Wt), some (.ref PA), some (nV z), v4, v5, v6] ∧ Frm R H H' ∧ H' R = some (.ins WL dx [("least", nV a), ("turns", .ref TT), ("goals", .ref O)]) ∧
      H' TT = some (.lst ts) ∧ H' O = some (.lst ((zs ++ [g]).map nV)) ∧ ts.length = i ∧ WaysL ⟨WP, WK, WR, WE, WL, Wt, lo, hi⟩ (fun a => N a ∨ a = TT ∨ a = O ∨ a = R) H' ts p z (zs ++ [g]) ∧ Below (hi + 2) g) ?_ ?_ ?_
    · exact ⟨[], [], z, _, _, _, rfl, f5, e5, t5, o5, rfl, .nil, hb⟩
    · rintro i σ H' hi' ⟨ts, zs, g, v4, v5, v6, rfl, f6, e6, t6, o6, tl, wl, bg⟩
      walk_at "gs"
      have zl := wl.len
      rw [List.length_append, List.length_singleton] at zl
      refine g_join (fun σ H7 => ∃ (u : V) (g2 : Nat) (v4 v6 : Option V), σ = [some (.ref R), some (.ref Wt), some (.ref PA), some (nV z), v4, some u, v6] ∧ Frm R H H7 ∧ H7 R = some (.ins WL dx [("least", nV a), ("turns", .ref TT), ("goals", .ref O)]) ∧
        H7 TT = some (.lst ts) ∧ H7 O = some (.lst ((zs ++ [g]).map nV)) ∧ WaysL ⟨WP, WK, WR, WE, WL, Wt, lo, hi⟩ (fun a => N a ∨ a = TT ∨ a = O ∨ a = R) H7 ts p z (zs ++ [g]) ∧ WayA ⟨WP, WK, WR, WE, WL, Wt, lo, hi⟩ (fun a => N a ∨ a = TT ∨ a = O ∨ a = R) H7 u p g g2) ?_ ?_
      case refine_2 =>
        intro N' hk
        walk_at "go"
        refine g_andE ?_ fun c0 hB => ?_
        · walk_at "go"
          refine g_ixT (SqT.of (f6 _ _ nRP hP)) rfl ?_
          walk_at "go"
          refine g_fldV rfl e6 T2.cL T2.lO rfl ?_
          walk_at "go"
          refine g_ixL (SqL.of o6) (atN (i := zs.length) (by omega) List.getElem?_concat_length) ?_
          walk_at "go"
          refine ⟨Wt, lo, hi, v, p, l, g, rfl, ⟨dw, f6 _ _ nRW hW⟩, l1, l2, PlA_keep (fun b xs h => f6 _ _ (ne_of h hR (fun z => nomatch z)) h) _ _ pA, ok, bg, fun H8 u g2 s8 wa => ?_⟩
          walk_at "go"
          have sub : ∀ a, (N a ∨ a = TT ∨ a = O ∨ a = R) → H' a ≠ none := fun a ha => by
            rcases ha with ha | rfl | rfl | rfl
            · by_cases c : a = R
              · exact absurd (c ▸ ha) nR
              · cases hq : H a with
                | none => exact absurd hq (nH a ha)
                | some o => rw [f6 _ _ c hq]; exact fun z => nomatch z
            · rw [t6]; exact fun z => nomatch z
            · rw [o6]; exact fun z => nomatch z
            · rw [e6]; exact fun z => nomatch z
          exact hk _ _ ⟨u, g2, _, _, rfl, fun b o n h => s8 _ _ (f6 b o n h), s8 _ _ e6, s8 _ _ t6, s8 _ _ o6, WaysL.same s8 wl, WayA.mono sub wa⟩
        · rcases wl.last with ⟨e1, _⟩ | ⟨ts', u, zs', g', g'', et, ez, wl', wa⟩
          · rw [e1, List.length_nil] at tl; omega
          obtain ⟨ey, eg⟩ := List.append_inj' ez rfl
          obtain rfl : g = g'' := (List.cons.inj eg).1
          walk_at "go"
          refine g_fldV rfl e6 T2.cL T2.lO rfl ?_
          walk_at "go"
          refine g_ixL (SqL.of o6) (atN (i := zs.length) (by omega) List.getElem?_concat_length) ?_
          walk_at "go"
          refine g_fldV rfl e6 T2.cL T2.lO rfl ?_
          walk_at "go"
          have zl' : zs.length = zs'.length + 1 := by rw [ey, List.length_append]; rfl
          refine g_ixL (SqL.of o6) (atN (i := zs'.length) (g := g') (by omega) (by rw [ey, List.append_assoc, List.getElem?_append_right (Nat.le_refl _), Nat.sub_self]; rfl)) ?_
          walk_at "go"
          by_cases c : g = g'
          · rw [if_pos (decide_eq_true (by rw [c]))]
            walk_at "go"
            refine g_fldV rfl e6 T2.cL T2.lT rfl ?_
            walk_at "go"
            refine g_ixL (SqL.of t6) (atI_back (v := u) (by rw [et, List.length_append, List.length_singleton, Nat.add_sub_cancel]; exact List.getElem?_concat_length)) ?_
            walk_at "go"
            exact hk _ _ ⟨u, g, _, _, rfl, f6, e6, t6, o6, wl, by rw [← c] at wa; exact wa⟩
          · rw [if_neg (by rw [decide_eq_false (by omega)]; exact Bool.false_ne_true)]
            exact hB
      case refine_1 =>
        rintro σ H7 ⟨u, g2, v4, v6, rfl, f7, e7, t7, o7, wl7, wa⟩
        walk_at "go"
        refine g_fldV rfl e7 T2.cL T2.lT rfl ?_
        walk_at "go"
        refine g_tyL t7 ?_
        walk_at "go"
        refine g_append t7 (by omega) ?_
        have f8 : Frm R H (upd H7 TT (.lst (ts ++ [u]))) := fun b o n h => by
          rw [upd_ne (fun y => by rw [y] at h n; rw [f1 _ _ n h] at hT; cases hT)]; exact f7 b o n h
        have e8 : upd H7 TT (.lst (ts ++ [u])) R = some (.ins WL dx [("least", nV a), ("turns", .ref TT), ("goals", .ref O)]) := by rw [upd_ne nTR.symm]; exact e7
        have t8 := upd_same (H := H7) (a := TT) (o := .lst (ts ++ [u]))
        have o8 : upd H7 TT (.lst (ts ++ [u])) O = some (.lst ((zs ++ [g]).map nV)) := by rw [upd_ne nOT]; exact o7
        have wl8 := WaysL.keep (keepN (o := .lst (ts ++ [u])) (.inr (.inl rfl))) wl7
        have wa8 := WayA.keep (keepN (o := .lst (ts ++ [u])) (.inr (.inl rfl))) wa
        generalize upd H7 TT (.lst (ts ++ [u])) = H8 at f8 e8 t8 o8 wl8 wa8
        walk_at "go"
        refine g_fldV rfl e8 T2.cL T2.lO rfl ?_
        walk_at "go"
        refine g_tyL o8 ?_
        obtain ⟨R', C', dx', fs', rfl, hR', _, cls', na', lk', _⟩ := WayA.at_ (K := K) T2 wa8
        walk_at "go"
        refine g_fldV rfl hR' cls' na' lk' ?_
        walk_at "go"
        refine g_append o8 (by rw [List.length_map, List.length_append, List.length_singleton]; omega) ?_
        have eq : (zs ++ [g]).map nV ++ [nV g2] = (zs ++ [g] ++ [g2]).map nV := by rw [List.map_append (l₂ := [g2])]; rfl
        rw [eq]
        walk_at "go"
        refine ⟨ts ++ [.ref R'], zs ++ [g], g2, _, _, _, rfl, fun b o n h => ?_, by rw [upd_ne nOR.symm]; exact e8, by rw [upd_ne nOT.symm]; exact t8, upd_same, by rw [List.length_append, tl]; rfl, ?_, wa.bits.low⟩
        · rw [upd_ne (fun y => by rw [y] at h n; rw [f3 _ _ n h] at hO; cases hO)]; exact f8 b o n h
        · exact WaysL.keep (keepN (.inr (.inr (.inl rfl)))) (.snoc wl8 wa8)
    · rintro σ H6 ⟨ts, zs, g, v4, v5, v6, rfl, f6, e6, t6, o6, tl, wl, bg⟩
      have zl := wl.len
      walk_at "go"
      refine g_sfld ?_
      walk_at "go"
      refine ⟨R, WL, dx, _, rfl, e6, T2.cL, T2.lG, by show 3 < 1000; decide, ?_⟩
      have f7 : Frm R H (upd H6 R (HO.ins WL dx (putF ("gaps" : Str) (nV 0) [("least", nV a), ("turns", .ref TT), ("goals", .ref O)]))) := f6.trans .set
      have e7 := upd_same (H := H6) (a := R) (o := HO.ins WL dx (putF ("gaps" : Str) (nV 0) [("least", nV a), ("turns", .ref TT), ("goals", .ref O)]))
      have t7 : upd H6 R (HO.ins WL dx (putF ("gaps" : Str) (nV 0) [("least", nV a), ("turns", .ref TT), ("goals", .ref O)])) TT = some (.lst ts) := by rw [upd_ne nTR]; exact t6
      have o7 : upd H6 R (HO.ins WL dx (putF ("gaps" : Str) (nV 0) [("least", nV a), ("turns", .ref TT), ("goals", .ref O)])) O = some (.lst ((zs ++ [g]).map nV)) := by rw [upd_ne nOR]; exact o6
      have w7 := WaysL.keep (keepN (o := HO.ins WL dx (putF ("gaps" : Str) (nV 0) [("least", nV a), ("turns", .ref TT), ("goals", .ref O)])) (.inr (.inr (.inr rfl)))) wl
      generalize upd H6 R (HO.ins WL dx (putF ("gaps" : Str) (nV 0) [("least", nV a), ("turns", .ref TT), ("goals", .ref O)])) = H7 at f7 e7 t7 o7 w7
      walk_at "go"
      refine g_fldV rfl e7 T2.cL T2.lO rfl ?_
      walk_at "go"
      refine g_fldV rfl e7 T2.cL T2.lL rfl ?_
      walk_at "go"
      have tb : ts.length = b := by omega
      refine g_slL (SqL.of o7) fun S hS => ?_
      rw [cut_from _ _ (by omega)]
      have sS := same_new (o := .lst (((zs ++ [g]).drop a).map nV)) hS
      have eS := upd_same (H := H7) (a := S) (o := .lst (((zs ++ [g]).drop a).map nV))
      have nSR : S ≠ R := fun z => by rw [z, e7] at hS; cases hS
      have f8 := f7.trans (.of sS)
      have e8 := sS _ _ e7
      have t8 := sS _ _ t7
      have o8 := sS _ _ o7
      have w8 := WaysL.same sS w7
      generalize upd H7 S (.lst (((zs ++ [g]).drop a).map nV)) = H8 at sS eS f8 e8 t8 o8 w8
      refine w_list (xs := ((zs ++ [g]).drop a).map nV) (fun i σ H' => ∃ (gg : Nat) (v4 v5 v6 : Option V), σ = [some (.ref R), some (.ref Wt), some (.ref PA), some (nV z), v4, v5, v6] ∧ Frm R H H' ∧ H' R = some (.ins WL dx [("least", nV a), ("turns", .ref TT), ("goals", .ref O), ("gaps", nV gg)]) ∧
        H' TT = some (.lst ts) ∧ H' O = some (.lst ((zs ++ [g]).map nV)) ∧ H' S = some (.lst (((zs ++ [g]).drop a).map nV)) ∧ WaysL ⟨WP, WK, WR, WE, WL, Wt, lo, hi⟩ (fun a => N a ∨ a = TT ∨ a = O ∨ a = R) H' ts p z (zs ++ [g]) ∧ Bits hi (fun G j => ∃ n : Nat, a ≤ n ∧ n < a + i ∧ iterP (Led lo hi p) n G j) z gg) ?_ ?_ ?_ ?_
      · exact ⟨0, _, _, _, rfl, f8, e8, t8, o8, eS, w8, bits_false fun G i ⟨n, h1, h2, _⟩ => by omega⟩
      · rintro i σ H' _ ⟨gg, v4, v5, v6, rfl, f9, e9, t9, o9, s9, w9, bt⟩
        exact SqL.of s9
      · rintro i x σ H' hx ⟨gg, v4, v5, v6, rfl, f9, e9, t9, o9, s9, w9, bt⟩
        obtain ⟨gi, hgi, rfl⟩ : ∃ gi, (zs ++ [g])[a + i]? = some gi ∧ x = nV gi := by
          rw [List.getElem?_map, List.getElem?_drop] at hx
          cases hq : (zs ++ [g])[a + i]? with
          | none => rw [hq] at hx; cases hx
          | some y => rw [hq] at hx; exact ⟨y, rfl, (Option.some.inj hx).symm⟩
        have bi := WaysL.bits w9 hb hgi
        walk_at "go"
        refine g_sfld ?_
        walk_at "go"
        refine g_fldV rfl e9 T2.cL T2.lG rfl ?_
        walk_at "go"
        refine ⟨gg, gi, rfl, rfl, ?_⟩
        walk_at "go"
        refine ⟨R, WL, dx, _, rfl, e9, T2.cL, T2.lG, by show 4 < 1000; decide, ?_⟩
        refine ⟨gg ||| gi, _, _, _, rfl, f9.trans .set, upd_same, by rw [upd_ne nTR]; exact t9, by rw [upd_ne nOR]; exact o9, by rw [upd_ne nSR]; exact s9, WaysL.keep (keepN (.inr (.inr (.inr rfl)))) w9, ?_⟩
        refine bits_iff (bits_or bt bi) fun j _ => ?_
        constructor
        · rintro (⟨n, h1, h2, h3⟩ | h3)
          · exact ⟨n, h1, by omega, h3⟩
          · exact ⟨a + i, by omega, by omega, h3⟩
        · rintro ⟨n, h1, h2, h3⟩
          by_cases c : n = a + i
          · exact .inr (c ▸ h3)
          · exact .inl ⟨n, h1, by omega, h3⟩
      · rintro σ H' ⟨gg, v4, v5, v6, rfl, f9, e9, t9, o9, s9, w9, bt⟩
        walk_at "go"
        refine q _ gg f9 (.loop e9 nR t9 nNT o9 nNO (WaysL.mono (fun a ha => .inl ha) w9) tb ?_)
        refine bits_iff bt fun j _ => ?_
        unfold Led
        rw [List.length_map, List.length_drop]
        exact ⟨fun ⟨n, h1, h2, h3⟩ => ⟨n, by omega, by omega, h3⟩, fun ⟨n, h1, h2, h3⟩ => ⟨n, by omega, by omega, h3⟩⟩
end
end K02
namespace K02
open PySem PySem.Spec PyProof.Rows L2 Wd RT
local macro_rules | `(tactic| walk_at "gs") => `(tactic| repeat (first
  | with_reducible refine Wd.g_seq ?_
  | ((with_reducible show L2.Ends.nx _ _ _); (with_reducible refine Wd.g_nx ?_))
  | with_reducible refine Wd.g_asg ?_
  | ((with_reducible refine' Wd.g_var ?h1 ?_); (case h1 => exact rfl))
  | with_reducible refine Wd.g_c ?_
  | with_reducible refine Wd.g_op ?_
  | with_reducible refine Wd.g_un ?_
  | with_reducible refine Wd.g_I0 ?_
  | with_reducible refine Wd.g_U ?_
  | with_reducible refine Wd.g_eqI ?_
  | with_reducible refine Wd.g_neI ?_
  | with_reducible refine Wd.g_eqS ?_
  | with_reducible refine Wd.g_neS ?_
  | with_reducible refine Wd.g_eqB ?_
  | with_reducible refine Wd.g_neB ?_
  | with_reducible refine Wd.g_isN ?_
  | with_reducible refine Wd.g_notN ?_
  | with_reducible refine Wd.g_lc ?_
  | with_reducible refine Wd.g_yes ?_
  | with_reducible refine Wd.g_test ?_
  | with_reducible refine Wd.g_tB ?_
  | with_reducible refine Wd.g_bl ?_
  | with_reducible refine Wd.g_blI ?_
  | with_reducible refine Wd.g_and ?_
  | with_reducible refine Wd.g_or ?_
  | with_reducible refine Wd.g_not ?_
  | with_reducible refine Wd.g_andV ?_
  | with_reducible refine Wd.g_orV ?_
  | with_reducible refine Wd.g_notV ?_
  | with_reducible refine Wd.g_if ?_
  | with_reducible refine Wd.g_chain ?_
  | with_reducible refine Wd.g_chain3 ?_
  | with_reducible refine Wd.g_nil ?_
  | with_reducible refine Wd.g_cons ?_
  | with_reducible refine Wd.g_tup ?_
  | with_reducible refine Wd.g_lst ?_
  | with_reducible refine Wd.g_CB ?_
  | with_reducible refine Wd.g_call ?_
  | with_reducible refine Wd.g_callS ?_
  | with_reducible refine Wd.g_bm ?_
  | with_reducible refine Wd.g_bm0 ?_
  | with_reducible refine Wd.g_sl ?_
  | with_reducible refine Wd.g_part ?_
  | with_reducible refine Wd.g_part1 ?_
  | with_reducible refine Wd.g_noPart ?_
  | with_reducible refine Wd.g_next ?_
  | with_reducible refine Wd.g_name ?_
  | with_reducible refine Wd.g_sub ?_
  | with_reducible refine Wd.g_gnil ?_
  | with_reducible refine Wd.g_gcons ?_
  | with_reducible refine Wd.g_drop ?_
  | with_reducible refine Wd.g_ret ?_
  | with_reducible refine Wd.g_retN ?_
  | with_reducible refine Wd.g_brk ?_
  | with_reducible refine Wd.g_cont ?_
  | ((with_reducible show L2.Ends.bk _ _ _); (with_reducible refine Wd.g_bk ?_))
  | ((with_reducible show L2.Ends.ct _ _ _); (with_reducible refine Wd.g_ct ?_))
  | ((with_reducible show L2.Ends.rt _ _ _); (with_reducible refine Wd.g_rt ?_))
  | with_reducible refine Wd.g_for ?_
  | with_reducible refine Wd.g_rng1 ?_
  | with_reducible refine Wd.g_rng2 ?_
  | with_reducible refine Wd.g_iList ?_
  | with_reducible refine Wd.g_iTup ?_
  | ((with_reducible refine Wd.g_fit ?h1 ?_); (case h1 => exact rfl))
  | with_reducible refine Wd.g_max2 ?_
  | with_reducible refine Wd.g_min2 ?_
  | with_reducible refine Wd.g_int1B ?_
  | with_reducible refine L2.iteT ?_
  | with_reducible refine L2.iteF ?_
  | ((with_reducible refine Wd.g_itT ?h1 ?_); (case h1 => exact rfl))
  | ((with_reducible refine Wd.g_itF ?h1 ?_); (case h1 => exact rfl))))
theorem preP_bits {lo hi z : Nat} (h : lo ≤ hi) : Bits hi (Led lo hi .pat) z (preP lo hi z) :=
  ⟨fun i hi' => by have := ((preP_bit h).mp hi').1; omega, fun i hi' => by
    unfold Led
    exact ⟨fun y => ((preP_bit h).mp y).2, fun y => (preP_bit h).mpr ⟨hi', y⟩⟩⟩
theorem g_make {C : Addr} {sp : Sp} {dvs : List V} {E : XK} {t : TA} {σ : L2.St} {H : Hp} {Q : VK} (h : t σ H fun vs H1 => ∀ x dx, H1 x = none → H1 dx = none → dx ≠ x → sp (.ref x :: (vs ++ dvs)) (upd (upd H1 dx (.own x)) x (.ins C dx [])) (fun v H2 => v = .non ∧ Q (.ref x) H2) E) : tMake C sp dvs E t σ H Q := h
/-- a new thing's addresses -/
theorem made {H : Hp} {x dx C : Addr} (hx : H x = none) (hd : H dx = none) (n : dx ≠ x) : ∃ G, upd (upd H dx (.own x)) x (.ins C dx []) = G ∧ Same H G ∧ G x = some (.ins C dx []) ∧ (∀ H', Frm x G H' → Same H H') ∧ (∀ a, H a ≠ none → G a ≠ none) := by
  have s1 : Same H (upd (upd H dx (.own x)) x (.ins C dx [])) := fun b o h => by
    rw [upd_ne (ne_of_none h hx), upd_ne (ne_of_none h hd)]; exact h
  refine ⟨_, rfl, s1, upd_same, fun H' f b o h => f b o (ne_of_none h hx) (s1 b o h), fun a ha => ?_⟩
  cases hq : H a with
  | none => exact absurd hq ha
  | some o => rw [s1 _ _ hq]; exact fun z => nomatch z
section
variable {P : Program} {w : World} {K : PySem.W.Frag} {mg : Str → Option Value} {base : Heap} {CWt WP WK WR WE WL : Addr}
abbrev s_way_to : Stmt := top 39
theorem sc_way_to : FnScope ["watcher", "plan", "goal", "word"] ["watcher", "plan", "goal"] (C8.fnScope s_way_to) := C8.fnScope_by (by decide +kernel)
theorem way_step {n : Nat} {spR spE spL : Sp} {f : Addr} {fd : FuncData} (D : C8.Def K mg "way_to" s_way_to f fd) (b : Binds K fd ["watcher", "plan", "goal"] [])
    (g_PatWay : C8.Mak P w K mg base 3 "PatWay" WP (sp_pinit CWt WP) []) (g_WorkWay : C8.Mak P w K mg base 3 "WorkWay" WK (sp_kinit K CWt WK) [])
    (g_RowWay : C8.Mak P w K mg base (3 + 3 * n) "RowWay" WR spR []) (g_EitherWay : C8.Mak P w K mg base (3 + 3 * n) "EitherWay" WE spE []) (g_LoopWay : C8.Mak P w K mg base (3 + 3 * n) "LoopWay" WL spL [])
    (hR : ∀ d, n = d + 1 → spR = sp_rinit CWt WP WK WR WE WL d) (hE : ∀ d, n = d + 1 → spE = sp_einit CWt WP WK WR WE WL d) (hL : ∀ d, n = d + 1 → spL = sp_linit CWt WP WK WR WE WL d) :
    C8.Cal P w K mg base (5 + 3 * n) "way_to" (sp_way CWt WP WK WR WE WL n) [] := by
  have lv : 5 + 3 * n = (4 + 3 * n) + 1 := by omega
  rw [lv]
  refine C8.cal0 D b .nil sc_way_to (fun vs H Q E h => ?_) fun cdv A outer s H vs Q E hr h => ?_
  · obtain ⟨Wt, lo, hi, v, p, l, z, rfl, _⟩ := h; rfl
  · obtain ⟨Wt, lo, hi, v, p, l, z, rfl, ⟨dw, hW⟩, l1, l2, pA, ok, hb, q⟩ := h
    have nd := sc_way_to.nd
    refine ⟨_, (pss_cons (ps_set (i := 3) nd rfl (Or.inl rfl) (pe_ix (r := rIxT K) ix_tup (pv 1) pe_int (fun _ _ => rfl)))
      (pss_cons (ps_if (pt_cmpR op_eq (pv 3) pe_str (nomark _)) (pss_one (ps_ret (C8.pe_mk g_PatWay hr (by first | decide | exact Nat.le_refl _ | omega) (by rfl) (pa_cons (pv 0) (pa_cons (pv 2) pa_nil))))) pss_nil)
      (pss_cons (ps_if (pt_cmpR op_eq (pv 3) pe_str (nomark _)) (pss_one (ps_ret (C8.pe_mk g_WorkWay hr (by first | decide | exact Nat.le_refl _ | omega) (by rfl) (pa_cons (pv 0) (pa_cons (pv 1) (pa_cons (pv 2) pa_nil)))))) pss_nil)
      (pss_cons (ps_if (pt_cmpR op_eq (pv 3) pe_str (nomark _)) (pss_one (ps_ret (C8.pe_mk g_RowWay hr (by first | decide | exact Nat.le_refl _ | omega) (by rfl) (pa_cons (pv 0) (pa_cons (pv 1) (pa_cons (pv 2) pa_nil)))))) pss_nil)
      (pss_cons (ps_if (pt_cmpR op_eq (pv 3) pe_str (nomark _)) (pss_one (ps_ret (C8.pe_mk g_EitherWay hr (by first | decide | exact Nat.le_refl _ | omega) (by rfl) (pa_cons (pv 0) (pa_cons (pv 1) (pa_cons (pv 2) pa_nil)))))) pss_nil)
      (pss_one (ps_ret (C8.pe_mk g_LoopWay hr (by first | decide | exact Nat.le_refl _ | omega) (by rfl) (pa_cons (pv 0) (pa_cons (pv 1) (pa_cons (pv 2) pa_nil))))))))))), ?_⟩
    cases pA with
    | pat ha =>
      walk_at "go"
      refine g_ixT (SqT.of ha) rfl ?_
      walk_at "go"
      refine g_make ?_
      walk_at "go"
      intro x dx hx hd nx
      obtain ⟨G, eG, s1, g1, k1, n1⟩ := made (C := WP) hx hd nx
      rw [eG]
      refine ⟨x, dx, Wt, lo, hi, z, rfl, g1, ⟨dw, s1 _ _ hW⟩, fun H' f e => ⟨rfl, ?_⟩⟩
      walk_at "go"
      exact q _ _ _ (k1 _ f) (.pat e (fun y => y hx) (preP_bits l1))
    | work ha =>
      unfold okP at ok
      rename_i PA x y
      obtain ⟨a, rfl⟩ : ∃ a : Nat, x = a := ⟨x.toNat, by omega⟩
      obtain ⟨b, rfl⟩ : ∃ b : Nat, y = b := ⟨y.toNat, by omega⟩
      walk_at "go"
      refine g_ixT (SqT.of ha) rfl ?_
      walk_at "go"
      refine g_make ?_
      walk_at "go"
      intro x dx hx hd nx
      obtain ⟨G, eG, s1, g1, k1, n1⟩ := made (C := WK) hx hd nx
      rw [eG]
      refine ⟨x, dx, Wt, PA, lo, hi, z, a, b, rfl, g1, ⟨dw, s1 _ _ hW⟩, l1, l2, hb, s1 _ _ ha, by omega, by omega, fun H' g f bt e => ⟨rfl, ?_⟩⟩
      walk_at "go"
      exact q _ _ _ (k1 _ f) (.work e (fun y => y hx) bt)
    | row ha hc hps =>
      match n, ok, hR, hE, hL, g_RowWay, q with
      | 0, ok, _, _, _, _, _ => unfold okP at ok; exact ok.elim
      | d + 1, ok, hR, hE, hL, g_RowWay, q =>
      unfold okP at ok
      walk_at "go"
      refine g_ixT (SqT.of ha) rfl ?_
      walk_at "go"
      refine g_make ?_
      walk_at "go"
      intro x dx hx hd nx
      obtain ⟨G, eG, s1, g1, k1, n1⟩ := made (C := WR) hx hd nx
      rw [eG, hR d rfl]
      refine ⟨fun a => H a ≠ none, x, dx, Wt, _, _, _, _, lo, hi, l, z, rfl, g1, ⟨dw, s1 _ _ hW⟩, l1, l2, hb, s1 _ _ ha, s1 _ _ hc, PlAs_keep (keepT_same s1) _ _ hps, ok.2.2, ok.2.1, n1, fun y => y hx, fun H' g f wa => ⟨rfl, ?_⟩⟩
      walk_at "go"
      exact q _ _ _ (k1 _ f) wa
    | either ha hc hps =>
      match n, ok, hR, hE, hL, g_EitherWay, q with
      | 0, ok, _, _, _, _, _ => unfold okP at ok; exact ok.elim
      | d + 1, ok, hR, hE, hL, g_EitherWay, q =>
      unfold okP at ok
      walk_at "go"
      refine g_ixT (SqT.of ha) rfl ?_
      walk_at "go"
      refine g_make ?_
      walk_at "go"
      intro x dx hx hd nx
      obtain ⟨G, eG, s1, g1, k1, n1⟩ := made (C := WE) hx hd nx
      rw [eG, hE d rfl]
      refine ⟨fun a => H a ≠ none, x, dx, Wt, _, _, _, _, lo, hi, l, z, rfl, g1, ⟨dw, s1 _ _ hW⟩, l1, l2, hb, s1 _ _ ha, s1 _ _ hc, PlAs_keep (keepT_same s1) _ _ hps, ok.2.2, ok.2.1, n1, fun y => y hx, fun H' g f wa => ⟨rfl, ?_⟩⟩
      walk_at "go"
      exact q _ _ _ (k1 _ f) wa
    | @loop PA x y u p ha hp =>
      match n, l, ok, hR, hE, hL, g_LoopWay, q with
      | 0, _, ok, _, _, _, _, _ => unfold okP at ok; exact ok.elim
      | d + 1, 0, ok, _, _, _, _, _ => unfold okP at ok; exact ok.elim
      | d + 1, l + 1, ok, hR, hE, hL, g_LoopWay, q =>
      unfold okP at ok
      obtain ⟨a, rfl⟩ : ∃ a : Nat, x = a := ⟨x.toNat, by omega⟩
      obtain ⟨b, rfl⟩ : ∃ b : Nat, y = b := ⟨y.toNat, by omega⟩
      walk_at "go"
      refine g_ixT (SqT.of ha) rfl ?_
      walk_at "go"
      refine g_make ?_
      walk_at "go"
      intro x dx hx hd nx
      obtain ⟨G, eG, s1, g1, k1, n1⟩ := made (C := WL) hx hd nx
      rw [eG, hL d rfl]
      refine ⟨fun a => H a ≠ none, x, dx, Wt, _, _, _, lo, hi, l, z, a, b, rfl, g1, ⟨dw, s1 _ _ hW⟩, l1, l2, hb, s1 _ _ ha, PlA_keep (keepT_same s1) _ _ hp, ok.2.2.2, by omega, by omega, n1, fun y => y hx, fun H' g f wa => ⟨rfl, ?_⟩⟩
      walk_at "go"
      exact q _ _ _ (k1 _ f) wa
theorem ok_way (T2 : TxtY K WP WK WR WE WL) (T : TxtJ K mg) {f fR fE fL : Addr} {fd dR dE dL : FuncData} (D : C8.Def K mg "way_to" s_way_to f fd) (b : Binds K fd ["watcher", "plan", "goal"] [])
    (g_PatWay : C8.Mak P w K mg base 3 "PatWay" WP (sp_pinit CWt WP) []) (g_WorkWay : C8.Mak P w K mg base 3 "WorkWay" WK (sp_kinit K CWt WK) [])
    (MR : Mk K WR fR) (hmR : mg "RowWay" = some (.ref WR)) (FR : C8.Fun K "__init__" "RowWay.__init__" s_RowWay_init fR dR) (bR : Binds K dR ["self", "watcher", "plan", "goal"] [])
    (ME : Mk K WE fE) (hmE : mg "EitherWay" = some (.ref WE)) (FE : C8.Fun K "__init__" "EitherWay.__init__" s_EitherWay_init fE dE) (bE : Binds K dE ["self", "watcher", "plan", "goal"] [])
    (ML : Mk K WL fL) (hmL : mg "LoopWay" = some (.ref WL)) (FL : C8.Fun K "__init__" "LoopWay.__init__" s_LoopWay_init fL dL) (bL : Binds K dL ["self", "watcher", "plan", "goal"] []) :
    ∀ n, C8.Cal P w K mg base (5 + 3 * n) "way_to" (sp_way CWt WP WK WR WE WL n) []
  | 0 => way_step (spR := fun _ _ _ _ => False) (spE := fun _ _ _ _ => False) (spL := fun _ _ _ _ => False) D b g_PatWay g_WorkWay
    ⟨fR, dR, ["self", "watcher", "plan", "goal"], [], MR, ⟨fun _ _ _ _ h => h.elim, fun _ _ _ _ _ _ _ _ _ _ _ _ _ h => h.elim⟩, hmR, bR, .nil⟩
    ⟨fE, dE, ["self", "watcher", "plan", "goal"], [], ME, ⟨fun _ _ _ _ h => h.elim, fun _ _ _ _ _ _ _ _ _ _ _ _ _ h => h.elim⟩, hmE, bE, .nil⟩
    ⟨fL, dL, ["self", "watcher", "plan", "goal"], [], ML, ⟨fun _ _ _ _ h => h.elim, fun _ _ _ _ _ _ _ _ _ _ _ _ _ h => h.elim⟩, hmL, bL, .nil⟩
    (fun d h => nomatch h) (fun d h => nomatch h) (fun d h => nomatch h)
  | n + 1 => by
    have ih := ok_way T2 T D b g_PatWay g_WorkWay MR hmR FR bR ME hmE FE bE ML hmL FL bL n
    have lv : 3 + 3 * (n + 1) = 6 + 3 * n := by omega
    refine way_step D b g_PatWay g_WorkWay (by rw [lv]; exact ok_rinit T2 T MR hmR FR bR ih) (by rw [lv]; exact ok_einit T2 T ME hmE FE bE ih) (by rw [lv]; exact ok_linit T2 T ML hmL FL bL ih) (fun d h => ?_) (fun d h => ?_) fun d h => ?_
    · obtain rfl : n = d := by omega
      rfl
    · obtain rfl : n = d := by omega
      rfl
    · obtain rfl : n = d := by omega
      rfl
end
end K02
namespace K02
open PySem PySem.Spec PyProof.Rows L2 Wd
/-! ### what a run makes of its gap -/
/-- the last pat along pats, none behind a bite -/
def stL (lo hi : Nat) : Int → List Int → Option Int
  | last, [] => some last
  | last, q :: qs => if last + hi < q then none else if q < last + lo then none else stL lo hi q qs
theorem stL_app {lo hi : Nat} : ∀ (a b : List Int) (last : Int), stL lo hi last (a ++ b) = (stL lo hi last a).bind fun l => stL lo hi l b
  | [], b, last => rfl
  | q :: a, b, last => by
    show (if last + hi < q then none else if q < last + lo then none else stL lo hi q (a ++ b)) = (if last + hi < q then none else if q < last + lo then none else stL lo hi q a).bind fun l => stL lo hi l b
    split
    · rfl
    · split
      · rfl
      · exact stL_app a b q
/-- the gap behind pats, at a moment -/
def gapOf (lo hi : Nat) (pats : List Int) (t : Int) : Int := match stL lo hi 0 pats with
  | none => (hi + 1 : Nat)
  | some last => min (t - last) (hi + 1 : Nat)
/-- from the gap g the delays ds, used up, lead to the gap g2 -/
def Go (lo hi : Nat) (f : List Int → Int → Res) (g : Nat) (ds : List Int) (g2 : Nat) : Prop :=
  ∀ rest t, ∃ nq t', f (ds ++ rest) t = some (nq, rest, t') ∧ ∀ pats, gapOf lo hi pats t = (g : Int) → gapOf lo hi (pats ++ nq) t' = (g2 : Int)
theorem go_pat {lo hi g : Nat} (hl : lo ≤ hi) : Go lo hi (rn .pat) g [] (gP lo hi g) := fun rest t => by
  refine ⟨[t], t, by simp only [List.nil_append, rn], fun pats h => ?_⟩
  unfold gapOf at h ⊢
  rw [stL_app]
  unfold gP
  cases hs : stL lo hi 0 pats with
  | none =>
    rw [hs] at h
    simp only [Option.bind_none] at h ⊢
    rw [if_neg (by omega)]
  | some last =>
    rw [hs] at h
    simp only [Option.bind_some] at h ⊢
    unfold stL stL
    by_cases c1 : last + hi < t
    · rw [if_pos c1]
      simp only
      rw [if_neg (by omega)]
    · rw [if_neg c1]
      by_cases c2 : t < last + lo
      · rw [if_pos c2]
        simp only
        rw [if_neg (by omega)]
      · rw [if_neg c2]
        simp only
        rw [if_pos (by omega)]
        omega
theorem go_work {lo hi g a b d : Nat} (h1 : a ≤ d) (h2 : d ≤ b) : Go lo hi (rn (.work a b)) g [(d : Int)] (gW hi g d) := fun rest t => by
  refine ⟨[], t + d, ?_, fun pats h => ?_⟩
  · simp only [List.cons_append, List.nil_append, rn]
    rw [if_pos (by omega)]
  rw [List.append_nil]
  unfold gapOf at h ⊢
  unfold gW
  cases hs : stL lo hi 0 pats with
  | none =>
    rw [hs] at h
    simp only at h ⊢
    omega
  | some last =>
    rw [hs] at h
    simp only at h ⊢
    omega
theorem go_id {lo hi g : Nat} {f : List Int → Int → Res} (h : ∀ ds t, f ds t = some ([], ds, t)) : Go lo hi f g [] g := fun rest t =>
  ⟨[], t, h _ _, fun pats h => by rw [List.append_nil]; exact h⟩
theorem go_nil {lo hi g : Nat} : Go lo hi (rns []) g [] g := go_id fun ds t => by simp only [rns]
theorem go_iter0 {lo hi g : Nat} {f : List Int → Int → Res} : Go lo hi (iter f 0) g [] g := go_id fun ds t => by simp only [iter]
theorem go_seq {lo hi g g1 g2 : Nat} {f k h : List Int → Int → Res} {a b : List Int} (e : ∀ ds t, h ds t = seqR (f ds t) k) (h1 : Go lo hi f g a g1) (h2 : Go lo hi k g1 b g2) : Go lo hi h g (a ++ b) g2 := fun rest t => by
  obtain ⟨n1, t1, e1, q1⟩ := h1 (b ++ rest) t
  obtain ⟨n2, t2, e2, q2⟩ := h2 rest t1
  refine ⟨n1 ++ n2, t2, ?_, fun pats hp => ?_⟩
  · rw [e, List.append_assoc, e1]
    exact seqR_some e2
  · rw [← List.append_assoc]
    exact q2 _ (q1 _ hp)
theorem go_cons {lo hi g g1 g2 : Nat} {p : Pl} {ps : List Pl} {a b : List Int} (h1 : Go lo hi (rn p) g a g1) (h2 : Go lo hi (rns ps) g1 b g2) : Go lo hi (rns (p :: ps)) g (a ++ b) g2 :=
  go_seq (fun ds t => by simp only [rns]) h1 h2
theorem go_iter {lo hi g g1 g2 n : Nat} {f : List Int → Int → Res} {a b : List Int} (h1 : Go lo hi f g a g1) (h2 : Go lo hi (iter f n) g1 b g2) : Go lo hi (iter f (n + 1)) g (a ++ b) g2 :=
  go_seq (fun ds t => by simp only [iter]) h1 h2
theorem go_row {lo hi g g2 : Nat} {ps : List Pl} {a : List Int} (h : Go lo hi (rns ps) g a g2) : Go lo hi (rn (.row ps)) g a g2 := fun rest t => by
  obtain ⟨n1, t1, e1, q1⟩ := h rest t
  exact ⟨n1, t1, by simp only [rn]; exact e1, q1⟩
theorem go_either {lo hi g g2 k : Nat} {ps : List Pl} {p : Pl} {a : List Int} (hk : ps[k]? = some p) (h : Go lo hi (rn p) g a g2) : Go lo hi (rn (.either ps)) g ((k : Int) :: a) g2 := fun rest t => by
  obtain ⟨n1, t1, e1, q1⟩ := h rest t
  refine ⟨n1, t1, ?_, q1⟩
  simp only [List.cons_append, rn]
  rw [if_pos (by omega), Int.toNat_natCast, rnAt_at hk]
  exact e1
theorem go_loop {lo hi g g2 k a b : Nat} {p : Pl} {as : List Int} (h1 : a ≤ k) (h2 : k ≤ b) (h : Go lo hi (iter (rn p) k) g as g2) : Go lo hi (rn (.loop a b p)) g ((k : Int) :: as) g2 := fun rest t => by
  obtain ⟨n1, t1, e1, q1⟩ := h rest t
  refine ⟨n1, t1, ?_, q1⟩
  simp only [List.cons_append, rn]
  rw [if_pos (by omega), Int.toNat_natCast]
  exact e1
/-- at most so many delays -/
theorem mx_either {ps : List Pl} {k : Nat} {p : Pl} (h : ps[k]? = some p) : 1 + mx p ≤ mx (.either ps) := by
  have := mx_at h
  simp only [mx]; omega
end K02
namespace K02
open PySem PySem.Spec PyProof.Rows L2 Wd RT
local macro_rules | `(tactic| walk_at "gs") => `(tactic| repeat (first
  | with_reducible refine Wd.g_seq ?_
  | ((with_reducible show L2.Ends.nx _ _ _); (with_reducible refine Wd.g_nx ?_))
  | with_reducible refine Wd.g_asg ?_
  | ((with_reducible refine' Wd.g_var ?h1 ?_); (case h1 => exact rfl))
  | with_reducible refine Wd.g_c ?_
  | with_reducible refine Wd.g_op ?_
  | with_reducible refine Wd.g_un ?_
  | with_reducible refine Wd.g_I0 ?_
  | with_reducible refine Wd.g_U ?_
  | with_reducible refine Wd.g_eqI ?_
  | with_reducible refine Wd.g_neI ?_
  | with_reducible refine Wd.g_eqS ?_
  | with_reducible refine Wd.g_neS ?_
  | with_reducible refine Wd.g_eqB ?_
  | with_reducible refine Wd.g_neB ?_
  | with_reducible refine Wd.g_isN ?_
  | with_reducible refine Wd.g_notN ?_
  | with_reducible refine Wd.g_lc ?_
  | with_reducible refine Wd.g_yes ?_
  | with_reducible refine Wd.g_test ?_
  | with_reducible refine Wd.g_tB ?_
  | with_reducible refine Wd.g_bl ?_
  | with_reducible refine Wd.g_blI ?_
  | with_reducible refine Wd.g_and ?_
  | with_reducible refine Wd.g_or ?_
  | with_reducible refine Wd.g_not ?_
  | with_reducible refine Wd.g_andV ?_
  | with_reducible refine Wd.g_orV ?_
  | with_reducible refine Wd.g_notV ?_
  | with_reducible refine Wd.g_if ?_
  | with_reducible refine Wd.g_chain ?_
  | with_reducible refine Wd.g_chain3 ?_
  | with_reducible refine Wd.g_nil ?_
  | with_reducible refine Wd.g_cons ?_
  | with_reducible refine Wd.g_tup ?_
  | with_reducible refine Wd.g_lst ?_
  | with_reducible refine Wd.g_CB ?_
  | with_reducible refine Wd.g_call ?_
  | with_reducible refine Wd.g_callS ?_
  | with_reducible refine Wd.g_bm ?_
  | with_reducible refine Wd.g_bm0 ?_
  | with_reducible refine Wd.g_sl ?_
  | with_reducible refine Wd.g_part ?_
  | with_reducible refine Wd.g_part1 ?_
  | with_reducible refine Wd.g_noPart ?_
  | with_reducible refine Wd.g_next ?_
  | with_reducible refine Wd.g_name ?_
  | with_reducible refine Wd.g_sub ?_
  | with_reducible refine Wd.g_gnil ?_
  | with_reducible refine Wd.g_gcons ?_
  | with_reducible refine Wd.g_drop ?_
  | with_reducible refine Wd.g_ret ?_
  | with_reducible refine Wd.g_retN ?_
  | with_reducible refine Wd.g_brk ?_
  | with_reducible refine Wd.g_cont ?_
  | ((with_reducible show L2.Ends.bk _ _ _); (with_reducible refine Wd.g_bk ?_))
  | ((with_reducible show L2.Ends.ct _ _ _); (with_reducible refine Wd.g_ct ?_))
  | ((with_reducible show L2.Ends.rt _ _ _); (with_reducible refine Wd.g_rt ?_))
  | with_reducible refine Wd.g_for ?_
  | with_reducible refine Wd.g_rng1 ?_
  | with_reducible refine Wd.g_rng2 ?_
  | with_reducible refine Wd.g_iList ?_
  | with_reducible refine Wd.g_iTup ?_
  | ((with_reducible refine Wd.g_fit ?h1 ?_); (case h1 => exact rfl))
  | with_reducible refine Wd.g_max2 ?_
  | with_reducible refine Wd.g_min2 ?_
  | with_reducible refine Wd.g_int1B ?_
  | with_reducible refine L2.iteT ?_
  | with_reducible refine L2.iteF ?_
  | ((with_reducible refine Wd.g_itT ?h1 ?_); (case h1 => exact rfl))
  | ((with_reducible refine Wd.g_itF ?h1 ?_); (case h1 => exact rfl))))
/-! ### a method that several classes have, each with a promise of its own -/
def tMethS (Cs : List (Addr × Sp)) (m : Str) (ta : TE) (t : TA) : TE := fun σ H Q => ta σ H fun y H1 => ∃ (a dx : Addr) (fs : List (Str × V)) (c : Addr × Sp), c ∈ Cs ∧ y = .ref a ∧ H1 a = some (.ins c.1 dx fs) ∧ fs.lookup m = none ∧ t σ H1 fun vs H2 => c.2 (y :: (vs ++ [])) H2 Q C8.E0
def MetS (P : Program) (w : World) (K : PySem.W.Frag) (mg : Str → Option Value) (base : Heap) (k : Nat) (Cs : List (Addr × Sp)) (m : Str) : Prop := ∀ c ∈ Cs, ∃ k', k' ≤ k ∧ C8.Met P w K mg base k' c.1 m c.2 []
section
variable {X : Cx} {k j : Nat} {Cs : List (Addr × Sp)} {m : Str} {pos apos : Pos} {o e : Expr} {es : List Expr} {ta : TE} {t : TA}
theorem pe_mtS {pl : Sem Bool} (c : MetS X.prog X.w X.K X.mg X.base k Cs m) (hr : Room j X.A) (hk : k ≤ j) (ho : PE X o ta) (ha : PA X (e :: es) t)
    (hst : starEach (e :: es) X.env = (false, eval e X.env) :: starEach es X.env := by rfl) (hpl : (backTo pos (starEach es X.env)).any (·.1) = false := by rfl)
    (ht : eval (.Call (.Attribute o m apos) (e :: es) [] pos) X.env = (do
      let obj ← eval o X.env
      standAt apos.atName
      let (fn, own) ← holding [obj] (getMethod obj m pl)
      callWith pos fn own (backTo pos (starEach (e :: es) X.env)) (backToKw pos (keywordEach [] X.env))) := by rfl) :
    PE X (.Call (.Attribute o m apos) (e :: es) [] pos) (tMethS Cs m ta t) := by
  refine ⟨fun pins s σ H Q I h => PySem.W.methodCall_KW (pl := pl) (thn (ho.run pins s σ H _ I h) fun u s1 ⟨y, H1, I1, ry, a, dx, fs, C, hC, ey, ea, l, q⟩ => ?_) ht⟩
  subst ey
  obtain rfl : u = Value.ref a := ry
  obtain ⟨k', hk', f, fd, ps, ds, hc, hm, F, b, d⟩ := c C hC
  exact getmeth_ok I1 ea hc hm l (PySem.W.callWith_K (first := [.ref a]) (h₀ := X.base) I.ok.mod.kin hm.kp (thn (ha.run pos pins s1 σ H1 _ I1 q) fun us s2 ⟨vs, H2, I2, r, q2⟩ => ⟨I2.kIn, run_fn (us := .ref a :: us) (vs := .ref a :: vs) F (hr.mono (Nat.le_trans hk' hk)) b d C8.pass0 I2 (.cons rfl r) q2⟩) hst hpl)
end
theorem g_mtS {Cs : List (Addr × Sp)} {m : Str} {ta : TE} {t : TA} {σ : L2.St} {H : Hp} {Q : VK} (h : ta σ H fun y H1 => ∃ (a dx : Addr) (fs : List (Str × V)) (c : Addr × Sp), c ∈ Cs ∧ y = .ref a ∧ H1 a = some (.ins c.1 dx fs) ∧ fs.lookup m = none ∧ t σ H1 fun vs H2 => c.2 (y :: (vs ++ [])) H2 Q C8.E0) : tMethS Cs m ta t σ H Q := h
/-! ### lead -/
def shp : Pl → Nat
  | .pat => 0
  | .work _ _ => 1
  | .row _ => 2
  | .either _ => 3
  | .loop _ _ _ => 4
def sp_ld (K : PySem.W.Frag) (CWt WP WK WR WE WL : Addr) (n s : Nat) : Sp := fun vs H Q _ => ∃ (N : Addr → Prop) (v : V) (D Wt : Addr) (ds : List Int) (p : Pl) (g lo hi l z gz : Nat), shp p = s ∧ vs = [v, nV g, .ref D] ∧ WayA ⟨WP, WK, WR, WE, WL, Wt, lo, hi⟩ N H v p z gz ∧ N D ∧ IsWt H CWt Wt lo hi ∧ lo ≤ hi ∧
  H D = some (.lst (ds.map V.int)) ∧ okP n l p ∧ g ≤ hi + 1 ∧ gz.testBit g = true ∧ ds.length + mx p ≤ 10000000 ∧
  ∀ (H' : Hp) (as : List Int) (g2 : Nat), Frm D H H' → H' D = some (.lst ((ds ++ as).map V.int)) → Go lo hi (rn p) g as g2 → z.testBit g2 = true → g2 ≤ hi + 1 → as.length ≤ mx p → Q (nV g2) H'
abbrev CsL (K : PySem.W.Frag) (CWt WP WK WR WE WL : Addr) (n : Nat) : List (Addr × Sp) := [(WP, sp_ld K CWt WP WK WR WE WL n 0), (WK, sp_ld K CWt WP WK WR WE WL n 1), (WR, sp_ld K CWt WP WK WR WE WL n 2), (WE, sp_ld K CWt WP WK WR WE WL n 3), (WL, sp_ld K CWt WP WK WR WE WL n 4)]
section
variable {P : Program} {w : World} {K : PySem.W.Frag} {mg : Str → Option Value} {base : Heap} {CWt WP WK WR WE WL : Addr}
/-- any way leads -/
theorem use_ld {n : Nat} {H : Hp} {Q : VK} {N : Addr → Prop} {v : V} {D Wt : Addr} {ds : List Int} {p : Pl} {g lo hi l z gz : Nat} (wa : WayA ⟨WP, WK, WR, WE, WL, Wt, lo, hi⟩ N H v p z gz) (nD : N D) (hW : IsWt H CWt Wt lo hi) (l1 : lo ≤ hi)
    (hD : H D = some (.lst (ds.map V.int))) (ok : okP n l p) (hg : g ≤ hi + 1) (ht : gz.testBit g = true) (hm : ds.length + mx p ≤ 10000000)
    (q : ∀ (H' : Hp) (as : List Int) (g2 : Nat), Frm D H H' → H' D = some (.lst ((ds ++ as).map V.int)) → Go lo hi (rn p) g as g2 → z.testBit g2 = true → g2 ≤ hi + 1 → as.length ≤ mx p → Q (nV g2) H') :
    ∃ (a dx : Addr) (fs : List (Str × V)) (c : Addr × Sp), c ∈ CsL K CWt WP WK WR WE WL n ∧ v = .ref a ∧ H a = some (.ins c.1 dx fs) ∧ fs.lookup ("lead" : Str) = none ∧ c.2 [v, nV g, .ref D] H Q C8.E0 := by
  have sp : sp_ld K CWt WP WK WR WE WL n (shp p) [v, nV g, .ref D] H Q C8.E0 := ⟨N, v, D, Wt, ds, p, g, lo, hi, l, z, gz, rfl, rfl, wa, nD, hW, l1, hD, ok, hg, ht, hm, q⟩
  cases wa with
  | pat h _ _ => exact ⟨_, _, _, (WP, sp_ld K CWt WP WK WR WE WL n 0), .head _, rfl, h, rfl, sp⟩
  | work h _ _ => exact ⟨_, _, _, (WK, sp_ld K CWt WP WK WR WE WL n 1), .tail _ (.head _), rfl, h, rfl, sp⟩
  | row h _ _ _ _ _ => exact ⟨_, _, _, (WR, sp_ld K CWt WP WK WR WE WL n 2), .tail _ (.tail _ (.head _)), rfl, h, rfl, sp⟩
  | either h _ _ _ _ _ => exact ⟨_, _, _, (WE, sp_ld K CWt WP WK WR WE WL n 3), .tail _ (.tail _ (.tail _ (.head _))), rfl, h, rfl, sp⟩
  | loop h _ _ _ _ _ _ _ _ => exact ⟨_, _, _, (WL, sp_ld K CWt WP WK WR WE WL n 4), .tail _ (.tail _ (.tail _ (.tail _ (.head _)))), rfl, h, rfl, sp⟩
theorem use_ldV {n i j : Nat} {σ : L2.St} {H : Hp} {Q : VK} {N : Addr → Prop} {v : V} {D Wt : Addr} {ds : List Int} {p : Pl} {g lo hi l z gz : Nat} (hi1 : σ[i]? = some (some (nV g))) (hj : σ[j]? = some (some (.ref D))) (wa : WayA ⟨WP, WK, WR, WE, WL, Wt, lo, hi⟩ N H v p z gz) (nD : N D) (hW : IsWt H CWt Wt lo hi) (l1 : lo ≤ hi)
    (hD : H D = some (.lst (ds.map V.int))) (ok : okP n l p) (hg : g ≤ hi + 1) (ht : gz.testBit g = true) (hm : ds.length + mx p ≤ 10000000)
    (q : ∀ (H' : Hp) (as : List Int) (g2 : Nat), Frm D H H' → H' D = some (.lst ((ds ++ as).map V.int)) → Go lo hi (rn p) g as g2 → z.testBit g2 = true → g2 ≤ hi + 1 → as.length ≤ mx p → Q (nV g2) H') :
    ∃ (a dx : Addr) (fs : List (Str × V)) (c : Addr × Sp), c ∈ CsL K CWt WP WK WR WE WL n ∧ v = .ref a ∧ H a = some (.ins c.1 dx fs) ∧ fs.lookup ("lead" : Str) = none ∧ tCons (tVar i) (tCons (tVar j) tNil) σ H fun vs H2 => c.2 (v :: (vs ++ [])) H2 Q C8.E0 := by
  obtain ⟨a, dx, fs, c, h1, h2, h3, h4, h5⟩ := use_ld (K := K) (CWt := CWt) (n := n) wa nD hW l1 hD ok hg ht hm q
  exact ⟨a, dx, fs, c, h1, h2, h3, h4, g_cons (g_var hi1 (g_cons (g_var hj (g_nil h5))))⟩
abbrev s_PatWay_lead : Stmt := (C8.clsBody (top 34)).getD 1 (.Pass ⟨0, 0, 0, 0⟩)
theorem sc_PatWay_lead : FnScope ["self", "gap", "delays"] ["self", "gap", "delays"] (C8.fnScope s_PatWay_lead) := C8.fnScope_by (by decide +kernel)
theorem ok_plead {n : Nat} (T2 : TxtY K WP WK WR WE WL) {f : Addr} {fd : FuncData} (me : Meth K WP "lead" f) (F : C8.Fun K "lead" "PatWay.lead" s_PatWay_lead f fd) (b : Binds K fd ["self", "gap", "delays"] []) (m_gbp : C8.Met P w K mg base 1 CWt "gap_behind_pat" (sp_gbp CWt) []) :
    C8.Met P w K mg base 2 WP "lead" (sp_ld K CWt WP WK WR WE WL n 0) [] := by
  refine C8.met0 T2.cP me F b sc_PatWay_lead (fun vs H Q E h => ?_) fun cdv A outer s H vs Q E hr h => ?_
  · obtain ⟨N, v, D, Wt, ds, p, g, lo, hi, l, z, gz, _, rfl, _⟩ := h; rfl
  · obtain ⟨N, v, D, Wt, ds, p, g, lo, hi, l, z, gz, hs, rfl, wa, nD, ⟨dw, hW⟩, l1, hD, ok, hg, ht, hm, q⟩ := h
    have nd := sc_PatWay_lead.nd
    refine ⟨_, (pss_one (ps_ret (C8.pe_mt m_gbp hr (by first | decide | exact Nat.le_refl _ | omega) (pe_fld (pv 0) rfl) (pa_cons (pv 1) pa_nil)))), ?_⟩
    cases wa with
    | work _ _ _ => cases hs
    | row _ _ _ _ _ _ => cases hs
    | either _ _ _ _ _ _ => cases hs
    | loop _ _ _ _ _ _ _ _ _ => cases hs
    | pat h nR bt =>
      walk_at "go"
      refine g_fldV rfl h T2.cP T2.pW rfl ?_
      refine ⟨Wt, dw, _, rfl, hW, rfl, ?_⟩
      walk_at "go"
      refine ⟨Wt, lo, hi, g, rfl, ⟨dw, hW⟩, ?_⟩
      walk_at "go"
      have hz := (bt.bit g hg).mp ht
      unfold Led at hz
      refine q H [] _ (fun b o _ h => h) (by rw [List.append_nil]; exact hD) (go_pat l1) hz gP_le (Nat.zero_le _)
abbrev s_WorkWay_lead : Stmt := (C8.clsBody (top 35)).getD 1 (.Pass ⟨0, 0, 0, 0⟩)
theorem sc_WorkWay_lead : FnScope ["self", "gap", "delays", "delay"] ["self", "gap", "delays"] (C8.fnScope s_WorkWay_lead) := C8.fnScope_by (by decide +kernel)
theorem ok_klead {n : Nat} (T2 : TxtY K WP WK WR WE WL) {f : Addr} {fd : FuncData} (me : Meth K WK "lead" f) (F : C8.Fun K "lead" "WorkWay.lead" s_WorkWay_lead f fd) (b : Binds K fd ["self", "gap", "delays"] []) (m_gbw : C8.Met P w K mg base 1 CWt "gap_behind_work" (sp_gbw CWt) []) (g_holds : C8.Cal P w K mg base 1 "holds" sp_holds []) :
    C8.Met P w K mg base 2 WK "lead" (sp_ld K CWt WP WK WR WE WL n 1) [] := by
  refine C8.met0 T2.cK me F b sc_WorkWay_lead (fun vs H Q E h => ?_) fun cdv A outer s H vs Q E hr h => ?_
  · obtain ⟨N, v, D, Wt, ds, p, g, lo, hi, l, z, gz, _, rfl, _⟩ := h; rfl
  · obtain ⟨N, v, D, Wt, ds, p, g, lo, hi, l, z, gz, hs, rfl, wa, nD, ⟨dw, hW⟩, l1, hD, ok, hg, ht, hm, q⟩ := h
    have nd := sc_WorkWay_lead.nd
    refine ⟨_, (pss_cons (ps_set (i := 3) nd rfl (Or.inl rfl) (pe_fld (pv 0) rfl))
      (pss_cons (ps_while PassesOwn.never (pt_not (pt_val (C8.pe_c g_holds hr (by first | decide | exact Nat.le_refl _ | omega) (by rfl) (pa_cons (pe_fld (pv 0) rfl) (pa_cons (C8.pe_mt m_gbw hr (by first | decide | exact Nat.le_refl _ | omega) (pe_fld (pv 0) rfl) (pa_cons (pv 1) (pa_cons (pv 3) pa_nil))) pa_nil))))) (pss_one (ps_aug (i := 3) nd rfl (Or.inl rfl) pe_int ip_add)))
      (pss_cons (ps_expr (pe_bmK (K := K) rfl PySem.F.plainAttrs_list PySem.F.slot_list_append PySem.F.type_list_append mt_append (pv 2) (pa_cons (pv 3) pa_nil)))
      (pss_one (ps_ret (C8.pe_mt m_gbw hr (by first | decide | exact Nat.le_refl _ | omega) (pe_fld (pv 0) rfl) (pa_cons (pv 1) (pa_cons (pv 3) pa_nil)))))))), ?_⟩
    cases wa with
    | pat _ _ _ => cases hs
    | row _ _ _ _ _ _ => cases hs
    | either _ _ _ _ _ _ => cases hs
    | loop _ _ _ _ _ _ _ _ _ => cases hs
    | @work R dx a b _ _ h nR bt =>
      have hz := (bt.bit g hg).mp ht
      unfold Led at hz
      obtain ⟨d0, b1, b2, b3⟩ := hz
      walk_at "go"
      refine g_fldV rfl h T2.cK T2.kL rfl ?_
      walk_at "go"
      refine w_loop (fun k σ H' => ∃ d : Nat, σ = [some (.ref R), some (nV g), some (.ref D), some (nV d)] ∧ H' = H ∧ a ≤ d ∧ d ≤ d0 ∧ k = d0 - d) (d0 - a) ?_ ?_
      · exact ⟨a, rfl, rfl, Nat.le_refl _, by omega, rfl⟩
      · rintro k σ H' ⟨d, rfl, rfl, c1, c2, rfl⟩
        walk_at "go"
        refine g_fldV rfl h T2.cK T2.kO rfl ?_
        walk_at "go"
        refine g_fldV rfl h T2.cK T2.kW rfl ?_
        refine ⟨Wt, dw, _, rfl, hW, rfl, ?_⟩
        walk_at "go"
        refine ⟨Wt, lo, hi, g, d, rfl, ⟨dw, hW⟩, ?_⟩
        walk_at "go"
        refine ⟨z, gW hi g d, rfl, ?_⟩
        refine ⟨_, rfl, ?_⟩
        by_cases c : z.testBit (gW hi g d) = true
        · rw [if_neg (by rw [c]; exact Bool.false_ne_true)]
          walk_at "go"
          refine g_tyL hD ?_
          walk_at "go"
          have dl : ds.length < 16000000 := by omega
          refine ⟨_, _, _, rfl, rfl, hD, by rw [List.length_map]; exact Nat.lt_of_lt_of_le dl (by decide), ?_⟩
          have nDR : R ≠ D := ne_of h hD (fun y => nomatch y)
          have nDW : Wt ≠ D := ne_of hW hD (fun y => nomatch y)
          have eD := upd_same (H := H') (a := D) (o := .lst (ds.map V.int ++ [nV d]))
          have eR := (upd_ne (H := H') (o := .lst (ds.map V.int ++ [nV d])) nDR).trans h
          have eW := (upd_ne (H := H') (o := .lst (ds.map V.int ++ [nV d])) nDW).trans hW
          have fD : Frm D H' (upd H' D (.lst (ds.map V.int ++ [nV d]))) := .set
          generalize upd H' D (.lst (ds.map V.int ++ [nV d])) = H2 at eD eR eW fD ⊢
          walk_at "go"
          refine g_fldV rfl eR T2.cK T2.kW rfl ?_
          refine ⟨Wt, dw, _, rfl, eW, rfl, ?_⟩
          walk_at "go"
          refine ⟨Wt, lo, hi, g, d, rfl, ⟨dw, eW⟩, ?_⟩
          walk_at "go"
          refine q H2 [(d : Int)] _ fD (by rw [eD, List.map_append]; rfl) (go_work c1 (by omega)) c gW_le (Nat.le_refl _)
        · rw [if_pos (by rw [Bool.not_eq_true] at c; rw [c]; rfl)]
          have ne : d ≠ d0 := fun y => c (y ▸ b3)
          refine ⟨fun σ' H'' => ∃ d' : Nat, σ' = [some (.ref R), some (nV g), some (.ref D), some (nV d')] ∧ H'' = H' ∧ a ≤ d' ∧ d' ≤ d0 ∧ d < d', fun σ' H'' ⟨d', e1, e2, e3, e4, e5⟩ => ⟨d0 - d', by omega, d', e1, e2, e3, e4, rfl⟩, ?_⟩
          refine ⟨_, rfl, ⟨_, _, rfl, rfl, ?_⟩⟩
          exact ⟨d + 1, rfl, rfl, by omega, by omega, by omega⟩
end
end K02
namespace K02
open PySem PySem.Spec PyProof.Rows L2 Wd RT
local macro_rules | `(tactic| walk_at "gs") => `(tactic| repeat (first
  | with_reducible refine Wd.g_seq ?_
  | ((with_reducible show L2.Ends.nx _ _ _); (with_reducible refine Wd.g_nx ?_))
  | with_reducible refine Wd.g_asg ?_
  | ((with_reducible refine' Wd.g_var ?h1 ?_); (case h1 => exact rfl))
  | with_reducible refine Wd.g_c ?_
  | with_reducible refine Wd.g_op ?_
  | with_reducible refine Wd.g_un ?_
  | with_reducible refine Wd.g_I0 ?_
  | with_reducible refine Wd.g_U ?_
  | with_reducible refine Wd.g_eqI ?_
  | with_reducible refine Wd.g_neI ?_
  | with_reducible refine Wd.g_eqS ?_
  | with_reducible refine Wd.g_neS ?_
  | with_reducible refine Wd.g_eqB ?_
  | with_reducible refine Wd.g_neB ?_
  | with_reducible refine Wd.g_isN ?_
  | with_reducible refine Wd.g_notN ?_
  | with_reducible refine Wd.g_lc ?_
  | with_reducible refine Wd.g_yes ?_
  | with_reducible refine Wd.g_test ?_
  | with_reducible refine Wd.g_tB ?_
  | with_reducible refine Wd.g_bl ?_
  | with_reducible refine Wd.g_blI ?_
  | with_reducible refine Wd.g_and ?_
  | with_reducible refine Wd.g_or ?_
  | with_reducible refine Wd.g_not ?_
  | with_reducible refine Wd.g_andV ?_
  | with_reducible refine Wd.g_orV ?_
  | with_reducible refine Wd.g_notV ?_
  | with_reducible refine Wd.g_if ?_
  | with_reducible refine Wd.g_chain ?_
  | with_reducible refine Wd.g_chain3 ?_
  | with_reducible refine Wd.g_nil ?_
  | with_reducible refine Wd.g_cons ?_
  | with_reducible refine Wd.g_tup ?_
  | with_reducible refine Wd.g_lst ?_
  | with_reducible refine Wd.g_CB ?_
  | with_reducible refine Wd.g_call ?_
  | with_reducible refine Wd.g_callS ?_
  | with_reducible refine Wd.g_bm ?_
  | with_reducible refine Wd.g_bm0 ?_
  | with_reducible refine Wd.g_sl ?_
  | with_reducible refine Wd.g_part ?_
  | with_reducible refine Wd.g_part1 ?_
  | with_reducible refine Wd.g_noPart ?_
  | with_reducible refine Wd.g_next ?_
  | with_reducible refine Wd.g_name ?_
  | with_reducible refine Wd.g_sub ?_
  | with_reducible refine Wd.g_gnil ?_
  | with_reducible refine Wd.g_gcons ?_
  | with_reducible refine Wd.g_drop ?_
  | with_reducible refine Wd.g_ret ?_
  | with_reducible refine Wd.g_retN ?_
  | with_reducible refine Wd.g_brk ?_
  | with_reducible refine Wd.g_cont ?_
  | ((with_reducible show L2.Ends.bk _ _ _); (with_reducible refine Wd.g_bk ?_))
  | ((with_reducible show L2.Ends.ct _ _ _); (with_reducible refine Wd.g_ct ?_))
  | ((with_reducible show L2.Ends.rt _ _ _); (with_reducible refine Wd.g_rt ?_))
  | with_reducible refine Wd.g_for ?_
  | with_reducible refine Wd.g_rng1 ?_
  | with_reducible refine Wd.g_rng2 ?_
  | with_reducible refine Wd.g_iList ?_
  | with_reducible refine Wd.g_iTup ?_
  | ((with_reducible refine Wd.g_fit ?h1 ?_); (case h1 => exact rfl))
  | with_reducible refine Wd.g_max2 ?_
  | with_reducible refine Wd.g_min2 ?_
  | with_reducible refine Wd.g_int1B ?_
  | with_reducible refine L2.iteT ?_
  | with_reducible refine L2.iteF ?_
  | ((with_reducible refine Wd.g_itT ?h1 ?_); (case h1 => exact rfl))
  | ((with_reducible refine Wd.g_itF ?h1 ?_); (case h1 => exact rfl))))
theorem keepF {N : Addr → Prop} {D : Addr} {H H' : Hp} (nD : N D) (f : Frm D H H') : ∀ b o, ¬ N b → H b = some o → H' b = some o := fun b o nb e => f b o (fun y => nb (by rw [y]; exact nD)) e
theorem frm_trans {D : Addr} {H H1 H2 : Hp} (f : Frm D H H1) (g : Frm D H1 H2) : Frm D H H2 := fun b o n h => g b o n (f b o n h)
theorem g_fld {K : PySem.W.Frag} {te : TE} {f : Str} {σ : L2.St} {H : Hp} {Q : VK} (h : te σ H fun x H1 => ∃ a C dx fs v, x = .ref a ∧ H1 a = some (.ins C dx fs) ∧ Cls K C ∧ NoAttr K C f ∧ fs.lookup f = some v ∧ Q v H1) : tFld K te f σ H Q := h
theorem WaysR.len {Y : Wy} {N : Addr → Prop} {H : Hp} : ∀ {vs : List V} {ps : List Pl} {z g : Nat}, WaysR Y N H vs ps z g → vs.length = ps.length
  | _, _, _, _, .nil => rfl
  | _, _, _, _, .snoc a b => by rw [List.length_append, WaysR.len a]; rfl
theorem WaysR.inv {Y : Wy} {N : Addr → Prop} {H : Hp} {vs : List V} {ps : List Pl} {z g : Nat} (h : WaysR Y N H vs ps z g) :
    (vs = [] ∧ ps = [] ∧ g = z) ∨ ∃ (us : List V) (qs : List Pl) (v : V) (p : Pl) (g1 : Nat), vs = us ++ [v] ∧ ps = p :: qs ∧ WaysR Y N H us qs z g1 ∧ WayA Y N H v p g1 g := by
  cases h with
  | nil => exact .inl ⟨rfl, rfl, rfl⟩
  | snoc a b => exact .inr ⟨_, _, _, _, _, rfl, rfl, a, b⟩
theorem mxs_drop {ps : List Pl} {i : Nat} {p : Pl} {qs : List Pl} (h : ps.drop i = p :: qs) : mxs (ps.drop i) = mx p + mxs (ps.drop (i + 1)) := by
  have : ps.drop (i + 1) = qs := by rw [← List.drop_drop, h]; rfl
  rw [h, this]; simp only [mxs]
section
variable {P : Program} {w : World} {K : PySem.W.Frag} {mg : Str → Option Value} {base : Heap} {CWt WP WK WR WE WL : Addr}
abbrev s_RowWay_lead : Stmt := (C8.clsBody (top 36)).getD 1 (.Pass ⟨0, 0, 0, 0⟩)
theorem sc_RowWay_lead : FnScope ["self", "gap", "delays", "way"] ["self", "gap", "delays"] (C8.fnScope s_RowWay_lead) := C8.fnScope_by (by decide +kernel)
theorem ok_rlead {n : Nat} (T2 : TxtY K WP WK WR WE WL) (T : TxtJ K mg) {f : Addr} {fd : FuncData} (me : Meth K WR "lead" f) (F : C8.Fun K "lead" "RowWay.lead" s_RowWay_lead f fd) (b : Binds K fd ["self", "gap", "delays"] []) (m_lead : MetS P w K mg base (2 + n) (CsL K CWt WP WK WR WE WL n) "lead") :
    C8.Met P w K mg base (3 + n) WR "lead" (sp_ld K CWt WP WK WR WE WL (n + 1) 2) [] := by
  have lv : 3 + n = (2 + n) + 1 := by omega
  rw [lv]
  refine C8.met0 T2.cR me F b sc_RowWay_lead (fun vs H Q E h => ?_) fun cdv A outer s H vs Q E hr h => ?_
  · obtain ⟨N, v, D, Wt, ds, p, g, lo, hi, l, z, gz, _, rfl, _⟩ := h; rfl
  · obtain ⟨N, v, D, Wt, ds, p, g, lo, hi, l, z, gz, hs, rfl, wa, nD, ⟨dw, hW⟩, l1, hD, ok, hg, ht, hm, q⟩ := h
    have nd := sc_RowWay_lead.nd
    refine ⟨_, (pss_cons (ps_for PassesOwn.never rfl (pi_revA (by rfl) T.n_reversed (pe_fld (pv 0) rfl)) (pg_name (i := 3) nd rfl (Or.inl rfl)) (pss_one (ps_set (i := 1) nd rfl (Or.inl rfl) (pe_mtS m_lead hr (by first | decide | exact Nat.le_refl _ | omega) (pv 3) (pa_cons (pv 1) (pa_cons (pv 2) pa_nil))))))
      (pss_one (ps_ret (pv 1)))), ?_⟩
    cases wa with
    | pat _ _ _ => cases hs
    | work _ _ _ => cases hs
    | either _ _ _ _ _ _ => cases hs
    | loop _ _ _ _ _ _ _ _ _ => cases hs
    | @row R dx L vs ps _ _ h nR hL nL wr bt =>
      unfold okP at ok
      have nRD : R ≠ D := fun y => nR (by rw [y]; exact nD)
      have nLD : L ≠ D := fun y => nL (by rw [y]; exact nD)
      have nWD : Wt ≠ D := ne_of hW hD (fun y => nomatch y)
      have vl := wr.len
      walk_at "go"
      refine g_rev ?_
      refine g_fldV rfl h T2.cR T2.rY rfl ?_
      refine w_revL (xs := vs) (fun i σ H' => ∃ (gi g1 : Nat) (as : List Int) (v3 : Option V), σ = [some (.ref R), some (nV g1), some (.ref D), v3] ∧ Frm D H H' ∧ H' D = some (.lst ((ds ++ as).map V.int)) ∧ WaysR ⟨WP, WK, WR, WE, WL, Wt, lo, hi⟩ N H' (vs.take (vs.length - i)) (ps.drop i) z gi ∧ gi.testBit g1 = true ∧ g1 ≤ hi + 1 ∧
        (∀ b g2, Go lo hi (rns (ps.drop i)) g1 b g2 → Go lo hi (rns ps) g (as ++ b) g2) ∧ as.length + mxs (ps.drop i) ≤ mxs ps) ?_ ?_ ?_ ?_
      · exact ⟨gz, g, [], _, rfl, fun b o _ h => h, by rw [List.append_nil]; exact hD, by rw [Nat.sub_zero, List.take_length]; exact wr, ht, hg, fun b g2 h => h, by rw [List.length_nil, List.drop_zero]; omega⟩
      · rintro i σ H' ⟨gi, g1, as, v3, rfl, f1, _⟩
        exact SqL.of (f1 _ _ nLD hL)
      · rintro i x σ H' hi' hx ⟨gi, g1, as, v3, rfl, f1, e1, w1, t1, le1, go1, m1⟩
        rcases w1.inv with ⟨y, _⟩ | ⟨us, qs, v, p, g', eu, ep, w2, wa⟩
        · have := congrArg List.length y
          rw [List.length_take, List.length_nil] at this
          omega
        have ul : us.length = vs.length - 1 - i := by
          have := congrArg List.length eu
          rw [List.length_take, List.length_append, List.length_singleton] at this
          omega
        have ev : us = vs.take (vs.length - (i + 1)) ∧ x = v := by
          have h1 : (vs.take (vs.length - i))[vs.length - 1 - i]? = some x := by rw [List.getElem?_take_of_lt (by omega)]; exact hx
          rw [eu, ← ul, List.getElem?_concat_length] at h1
          refine ⟨?_, (Option.some.inj h1).symm⟩
          have h2 := congrArg (List.take us.length) eu
          rw [List.take_take, List.take_left] at h2
          rw [← h2]
          congr 1
          omega
        obtain ⟨rfl, rfl⟩ : us = vs.take (vs.length - (i + 1)) ∧ v = x := ⟨ev.1, ev.2.symm⟩
        have eq : ps.drop (i + 1) = qs := by rw [← List.drop_drop, ep]; rfl
        have pk : ps[i]? = some p := by
          have := congrArg (·[0]?) ep
          simp only [List.getElem?_drop, Nat.add_zero] at this
          exact this
        have md := mxs_drop ep
        have mrow : mx (.row ps) = mxs ps := by simp only [mx]
        walk_at "go"
        refine g_mtS ?_
        walk_at "go"
        refine use_ldV (l := l) rfl rfl wa nD ⟨dw, f1 _ _ nWD hW⟩ l1 e1 (okPs_at ok.2.2 pk) le1 t1 (by rw [List.length_append]; omega) fun H2 as2 g2 f2 e2 go2 t2 le2 m2 => ?_
        walk_at "go"
        refine ⟨g', g2, as ++ as2, _, rfl, frm_trans f1 f2, by rw [← List.append_assoc]; exact e2, by rw [eq]; exact WaysR.keep (keepF nD f2) w2, t2, le2, fun b g3 hb => ?_, by rw [List.length_append]; omega⟩
        rw [List.append_assoc]
        refine go1 _ _ ?_
        rw [ep, ← eq]
        exact go_cons go2 hb
      · rintro σ H' ⟨gi, g1, as, v3, rfl, f1, e1, w1, t1, le1, go1, m1⟩
        rw [Nat.sub_self, List.take_zero] at w1
        rw [vl, List.drop_length] at w1 go1
        rcases w1.inv with ⟨_, _, rfl⟩ | ⟨us, qs, v, p, g', eu, _⟩
        · walk_at "go"
          refine q _ as g1 f1 e1 (go_row (by have := go1 [] g1 go_nil; rw [List.append_nil] at this; exact this)) t1 le1 (by simp only [mx]; omega)
        · exact absurd (congrArg List.length eu) (by rw [List.length_append]; exact fun y => nomatch y)
end
end K02
namespace K02
open PySem PySem.Spec PyProof.Rows L2 Wd RT
local macro_rules | `(tactic| walk_at "gs") => `(tactic| repeat (first
  | with_reducible refine Wd.g_seq ?_
  | ((with_reducible show L2.Ends.nx _ _ _); (with_reducible refine Wd.g_nx ?_))
  | with_reducible refine Wd.g_asg ?_
  | ((with_reducible refine' Wd.g_var ?h1 ?_); (case h1 => exact rfl))
  | with_reducible refine Wd.g_c ?_
  | with_reducible refine Wd.g_op ?_
  | with_reducible refine Wd.g_un ?_
  | with_reducible refine Wd.g_I0 ?_
  | with_reducible refine Wd.g_U ?_
  | with_reducible refine Wd.g_eqI ?_
  | with_reducible refine Wd.g_neI ?_
  | with_reducible refine Wd.g_eqS ?_
  | with_reducible refine Wd.g_neS ?_
  | with_reducible refine Wd.g_eqB ?_
  | with_reducible refine Wd.g_neB ?_
  | with_reducible refine Wd.g_isN ?_
  | with_reducible refine Wd.g_notN ?_
  | with_reducible refine Wd.g_lc ?_
  | with_reducible refine Wd.g_yes ?_
  | with_reducible refine Wd.g_test ?_
  | with_reducible refine Wd.g_tB ?_
  | with_reducible refine Wd.g_bl ?_
  | with_reducible refine Wd.g_blI ?_
  | with_reducible refine Wd.g_and ?_
  | with_reducible refine Wd.g_or ?_
  | with_reducible refine Wd.g_not ?_
  | with_reducible refine Wd.g_andV ?_
  | with_reducible refine Wd.g_orV ?_
  | with_reducible refine Wd.g_notV ?_
  | with_reducible refine Wd.g_if ?_
  | with_reducible refine Wd.g_chain ?_
  | with_reducible refine Wd.g_chain3 ?_
  | with_reducible refine Wd.g_nil ?_
  | with_reducible refine Wd.g_cons ?_
  | with_reducible refine Wd.g_tup ?_
  | with_reducible refine Wd.g_lst ?_
  | with_reducible refine Wd.g_CB ?_
  | with_reducible refine Wd.g_call ?_
  | with_reducible refine Wd.g_callS ?_
  | with_reducible refine Wd.g_bm ?_
  | with_reducible refine Wd.g_bm0 ?_
  | with_reducible refine Wd.g_sl ?_
  | with_reducible refine Wd.g_part ?_
  | with_reducible refine Wd.g_part1 ?_
  | with_reducible refine Wd.g_noPart ?_
  | with_reducible refine Wd.g_next ?_
  | with_reducible refine Wd.g_name ?_
  | with_reducible refine Wd.g_sub ?_
  | with_reducible refine Wd.g_gnil ?_
  | with_reducible refine Wd.g_gcons ?_
  | with_reducible refine Wd.g_drop ?_
  | with_reducible refine Wd.g_ret ?_
  | with_reducible refine Wd.g_retN ?_
  | with_reducible refine Wd.g_brk ?_
  | with_reducible refine Wd.g_cont ?_
  | ((with_reducible show L2.Ends.bk _ _ _); (with_reducible refine Wd.g_bk ?_))
  | ((with_reducible show L2.Ends.ct _ _ _); (with_reducible refine Wd.g_ct ?_))
  | ((with_reducible show L2.Ends.rt _ _ _); (with_reducible refine Wd.g_rt ?_))
  | with_reducible refine Wd.g_for ?_
  | with_reducible refine Wd.g_rng1 ?_
  | with_reducible refine Wd.g_rng2 ?_
  | with_reducible refine Wd.g_iList ?_
  | with_reducible refine Wd.g_iTup ?_
  | ((with_reducible refine Wd.g_fit ?h1 ?_); (case h1 => exact rfl))
  | with_reducible refine Wd.g_max2 ?_
  | with_reducible refine Wd.g_min2 ?_
  | with_reducible refine Wd.g_int1B ?_
  | with_reducible refine L2.iteT ?_
  | with_reducible refine L2.iteF ?_
  | ((with_reducible refine Wd.g_itT ?h1 ?_); (case h1 => exact rfl))
  | ((with_reducible refine Wd.g_itF ?h1 ?_); (case h1 => exact rfl))))
theorem ledE_at {lo hi : Nat} {G : Nat → Prop} {g : Nat} : ∀ {ps : List Pl}, LedE lo hi ps G g → ∃ (k : Nat) (p : Pl), ps[k]? = some p ∧ Led lo hi p G g
  | [], h => by unfold LedE at h; exact h.elim
  | p :: ps, h => by
    unfold LedE at h
    rcases h with h | h
    · exact ⟨0, p, rfl, h⟩
    · obtain ⟨k, q, h1, h2⟩ := ledE_at h
      exact ⟨k + 1, q, h1, h2⟩
theorem WaysE.at2 {Y : Wy} {N : Addr → Prop} {H : Hp} : ∀ {vs : List V} {ps : List Pl} {z i : Nat} {p : Pl}, WaysE Y N H vs ps z → ps[i]? = some p → ∃ v g, vs[i]? = some v ∧ WayA Y N H v p z g
  | _, _, _, _, _, .nil, h => nomatch h
  | _, _, _, 0, _, .cons (v := v) (g := g) a b, h => by cases h; exact ⟨v, g, rfl, a⟩
  | _, _, _, i + 1, _, .cons a b, h => WaysE.at2 (i := i) b h
section
variable {P : Program} {w : World} {K : PySem.W.Frag} {mg : Str → Option Value} {base : Heap} {CWt WP WK WR WE WL : Addr}
abbrev s_EitherWay_lead : Stmt := (C8.clsBody (top 37)).getD 1 (.Pass ⟨0, 0, 0, 0⟩)
theorem sc_EitherWay_lead : FnScope ["self", "gap", "delays", "which"] ["self", "gap", "delays"] (C8.fnScope s_EitherWay_lead) := C8.fnScope_by (by decide +kernel)
theorem ok_elead {n : Nat} (T2 : TxtY K WP WK WR WE WL) (T : TxtJ K mg) {f : Addr} {fd : FuncData} (me : Meth K WE "lead" f) (F : C8.Fun K "lead" "EitherWay.lead" s_EitherWay_lead f fd) (b : Binds K fd ["self", "gap", "delays"] []) (m_lead : MetS P w K mg base (2 + n) (CsL K CWt WP WK WR WE WL n) "lead") (g_holds : C8.Cal P w K mg base 1 "holds" sp_holds []) :
    C8.Met P w K mg base (3 + n) WE "lead" (sp_ld K CWt WP WK WR WE WL (n + 1) 3) [] := by
  have lv : 3 + n = (2 + n) + 1 := by omega
  rw [lv]
  refine C8.met0 T2.cE me F b sc_EitherWay_lead (fun vs H Q E h => ?_) fun cdv A outer s H vs Q E hr h => ?_
  · obtain ⟨N, v, D, Wt, ds, p, g, lo, hi, l, z, gz, _, rfl, _⟩ := h; rfl
  · obtain ⟨N, v, D, Wt, ds, p, g, lo, hi, l, z, gz, hs, rfl, wa, nD, ⟨dw, hW⟩, l1, hD, ok, hg, ht, hm, q⟩ := h
    have nd := sc_EitherWay_lead.nd
    refine ⟨_, (pss_cons (ps_set (i := 3) nd rfl (Or.inl rfl) pe_int)
      (pss_cons (ps_while PassesOwn.never (pt_not (pt_val (C8.pe_c g_holds hr (by first | decide | exact Nat.le_refl _ | omega) (by rfl) (pa_cons (pe_fld (pe_ix (r := rIxL K) ix_list (pe_fld (pv 0) rfl) (pv 3) (fun _ _ => rfl)) rfl) (pa_cons (pv 1) pa_nil))))) (pss_one (ps_aug (i := 3) nd rfl (Or.inl rfl) pe_int ip_add)))
      (pss_cons (ps_expr (pe_bmK (K := K) rfl PySem.F.plainAttrs_list PySem.F.slot_list_append PySem.F.type_list_append mt_append (pv 2) (pa_cons (pv 3) pa_nil)))
      (pss_one (ps_ret (pe_mtS m_lead hr (by first | decide | exact Nat.le_refl _ | omega) (pe_ix (r := rIxL K) ix_list (pe_fld (pv 0) rfl) (pv 3) (fun _ _ => rfl)) (pa_cons (pv 1) (pa_cons (pv 2) pa_nil)))))))), ?_⟩
    cases wa with
    | pat _ _ _ => cases hs
    | work _ _ _ => cases hs
    | row _ _ _ _ _ _ => cases hs
    | loop _ _ _ _ _ _ _ _ _ => cases hs
    | @either R dx L vs ps _ _ h nR hL nL we bt =>
      unfold okP at ok
      have nRD : R ≠ D := fun y => nR (by rw [y]; exact nD)
      have nLD : L ≠ D := fun y => nL (by rw [y]; exact nD)
      have nWD : Wt ≠ D := ne_of hW hD (fun y => nomatch y)
      have hz := (bt.bit g hg).mp ht
      unfold Led at hz
      obtain ⟨k0, p0, pk0, led0⟩ := ledE_at hz
      obtain ⟨v0, g0, vk0, wa0⟩ := we.at2 pk0
      have t0 := (wa0.bits.bit g hg).mpr led0
      have vl := we.len
      have k0l : k0 < vs.length := (List.getElem?_eq_some_iff.mp vk0).1
      walk_at "go"
      refine w_loop (fun k σ H' => ∃ d : Nat, σ = [some (.ref R), some (nV g), some (.ref D), some (nV d)] ∧ H' = H ∧ d ≤ k0 ∧ k = k0 - d) k0 ?_ ?_
      · exact ⟨0, rfl, rfl, Nat.zero_le _, rfl⟩
      · rintro k σ H' ⟨d, rfl, rfl, c2, rfl⟩
        obtain ⟨v, hv⟩ : ∃ v, vs[d]? = some v := ⟨vs[d], List.getElem?_eq_getElem (by omega)⟩
        obtain ⟨p, gp, hp, wa⟩ := we.at hv
        obtain ⟨R', C', dx', fs', ev, hR', _, cls', na', lk', _⟩ := WayA.at_ (K := K) T2 wa
        have atv : atI vs (d : Int) = some v := at_of (j := d) (by omega) hv
        walk_at "go"
        refine g_fld ?_
        walk_at "go"
        refine g_fldV rfl h T2.cE T2.eY rfl ?_
        walk_at "go"
        refine g_ixL (SqL.of hL) atv ?_
        refine ⟨R', C', dx', fs', nV gp, ev, hR', cls', na', lk', ?_⟩
        walk_at "go"
        refine ⟨gp, g, rfl, ?_⟩
        refine ⟨_, rfl, ?_⟩
        by_cases c : gp.testBit g = true
        · rw [if_neg (by rw [c]; exact Bool.false_ne_true)]
          walk_at "go"
          refine g_tyL hD ?_
          walk_at "go"
          have dl : ds.length < 16000000 := by omega
          refine ⟨_, _, _, rfl, rfl, hD, by rw [List.length_map]; exact Nat.lt_of_lt_of_le dl (by decide), ?_⟩
          have eD := upd_same (H := H') (a := D) (o := .lst (ds.map V.int ++ [nV d]))
          have eR := (upd_ne (H := H') (o := .lst (ds.map V.int ++ [nV d])) nRD).trans h
          have eL := (upd_ne (H := H') (o := .lst (ds.map V.int ++ [nV d])) nLD).trans hL
          have eW := (upd_ne (H := H') (o := .lst (ds.map V.int ++ [nV d])) nWD).trans hW
          have fD : Frm D H' (upd H' D (.lst (ds.map V.int ++ [nV d]))) := .set
          have wa2 := WayA.keep (keepN (o := .lst (ds.map V.int ++ [nV d])) nD) wa
          generalize upd H' D (.lst (ds.map V.int ++ [nV d])) = H2 at eD eR eL eW fD wa2 ⊢
          have eD2 : H2 D = some (.lst ((ds ++ [(d : Int)]).map V.int)) := by rw [eD, List.map_append]; rfl
          have mxp := mx_either hp
          walk_at "go"
          refine g_mtS ?_
          walk_at "go"
          refine g_fldV rfl eR T2.cE T2.eY rfl ?_
          walk_at "go"
          refine g_ixL (SqL.of eL) atv ?_
          refine use_ldV (l := l) rfl rfl wa2 nD ⟨dw, eW⟩ l1 eD2 (okPs_at ok.2.2 hp) hg c (by rw [List.length_append, List.length_singleton]; omega) fun H3 as2 g2 f3 e3 go3 t3 le3 m3 => ?_
          walk_at "go"
          refine q H3 ((d : Int) :: as2) g2 (frm_trans fD f3) (by rw [e3, List.append_assoc]; rfl) (go_either hp go3) t3 le3 (by rw [List.length_cons]; omega)
        · rw [if_pos (by rw [Bool.not_eq_true] at c; rw [c]; rfl)]
          have ne : d ≠ k0 := fun y => by
            subst y
            rw [hv] at vk0
            obtain rfl := Option.some.inj vk0
            rw [hp] at pk0
            obtain rfl := Option.some.inj pk0
            exact c ((wa.bits.bit g hg).mpr led0)
          refine ⟨fun σ' H'' => ∃ d' : Nat, σ' = [some (.ref R), some (nV g), some (.ref D), some (nV d')] ∧ H'' = H' ∧ d' ≤ k0 ∧ d < d', fun σ' H'' ⟨d', e1, e2, e4, e5⟩ => ⟨k0 - d', by omega, d', e1, e2, e4, rfl⟩, ?_⟩
          refine ⟨_, rfl, ⟨_, _, rfl, rfl, ?_⟩⟩
          exact ⟨d + 1, rfl, rfl, by omega, by omega⟩
end
end K02
namespace K02
open PySem PySem.Spec PyProof.Rows L2 Wd RT
local macro_rules | `(tactic| walk_at "gs") => `(tactic| repeat (first
  | with_reducible refine Wd.g_seq ?_
  | ((with_reducible show L2.Ends.nx _ _ _); (with_reducible refine Wd.g_nx ?_))
  | with_reducible refine Wd.g_asg ?_
  | ((with_reducible refine' Wd.g_var ?h1 ?_); (case h1 => exact rfl))
  | with_reducible refine Wd.g_c ?_
  | with_reducible refine Wd.g_op ?_
  | with_reducible refine Wd.g_un ?_
  | with_reducible refine Wd.g_I0 ?_
  | with_reducible refine Wd.g_U ?_
  | with_reducible refine Wd.g_eqI ?_
  | with_reducible refine Wd.g_neI ?_
  | with_reducible refine Wd.g_eqS ?_
  | with_reducible refine Wd.g_neS ?_
  | with_reducible refine Wd.g_eqB ?_
  | with_reducible refine Wd.g_neB ?_
  | with_reducible refine Wd.g_isN ?_
  | with_reducible refine Wd.g_notN ?_
  | with_reducible refine Wd.g_lc ?_
  | with_reducible refine Wd.g_yes ?_
  | with_reducible refine Wd.g_test ?_
  | with_reducible refine Wd.g_tB ?_
  | with_reducible refine Wd.g_bl ?_
  | with_reducible refine Wd.g_blI ?_
  | with_reducible refine Wd.g_and ?_
  | with_reducible refine Wd.g_or ?_
  | with_reducible refine Wd.g_not ?_
  | with_reducible refine Wd.g_andV ?_
  | with_reducible refine Wd.g_orV ?_
  | with_reducible refine Wd.g_notV ?_
  | with_reducible refine Wd.g_if ?_
  | with_reducible refine Wd.g_chain ?_
  | with_reducible refine Wd.g_chain3 ?_
  | with_reducible refine Wd.g_nil ?_
  | with_reducible refine Wd.g_cons ?_
  | with_reducible refine Wd.g_tup ?_
  | with_reducible refine Wd.g_lst ?_
  | with_reducible refine Wd.g_CB ?_
  | with_reducible refine Wd.g_call ?_
  | with_reducible refine Wd.g_callS ?_
  | with_reducible refine Wd.g_bm ?_
  | with_reducible refine Wd.g_bm0 ?_
  | with_reducible refine Wd.g_sl ?_
  | with_reducible refine Wd.g_part ?_
  | with_reducible refine Wd.g_part1 ?_
  | with_reducible refine Wd.g_noPart ?_
  | with_reducible refine Wd.g_next ?_
  | with_reducible refine Wd.g_name ?_
  | with_reducible refine Wd.g_sub ?_
  | with_reducible refine Wd.g_gnil ?_
  | with_reducible refine Wd.g_gcons ?_
  | with_reducible refine Wd.g_drop ?_
  | with_reducible refine Wd.g_ret ?_
  | with_reducible refine Wd.g_retN ?_
  | with_reducible refine Wd.g_brk ?_
  | with_reducible refine Wd.g_cont ?_
  | ((with_reducible show L2.Ends.bk _ _ _); (with_reducible refine Wd.g_bk ?_))
  | ((with_reducible show L2.Ends.ct _ _ _); (with_reducible refine Wd.g_ct ?_))
  | ((with_reducible show L2.Ends.rt _ _ _); (with_reducible refine Wd.g_rt ?_))
  | with_reducible refine Wd.g_for ?_
  | with_reducible refine Wd.g_rng1 ?_
  | with_reducible refine Wd.g_rng2 ?_
  | with_reducible refine Wd.g_iList ?_
  | with_reducible refine Wd.g_iTup ?_
  | ((with_reducible refine Wd.g_fit ?h1 ?_); (case h1 => exact rfl))
  | with_reducible refine Wd.g_max2 ?_
  | with_reducible refine Wd.g_min2 ?_
  | with_reducible refine Wd.g_int1B ?_
  | with_reducible refine L2.iteT ?_
  | with_reducible refine L2.iteF ?_
  | ((with_reducible refine Wd.g_itT ?h1 ?_); (case h1 => exact rfl))
  | ((with_reducible refine Wd.g_itF ?h1 ?_); (case h1 => exact rfl))))
theorem cut_to {α : Type} (l : List α) (f : α → V) {b : Nat} (hb : b ≤ l.length) : cutV (l.map f) none (some (b : Int)) = (l.take b).map f := by
  unfold cutV
  rw [HT.sIx_nat, HT.sIx_none, List.length_map, Nat.min_eq_left hb, List.drop_zero, Nat.sub_zero, List.map_take]
theorem cut_toV (l : List V) {b : Nat} (hb : b ≤ l.length) : cutV l none (some (b : Int)) = l.take b := by
  have := cut_to l id hb
  rw [List.map_id, List.map_id] at this
  exact this
theorem WaysL.bit {Y : Wy} {N : Addr → Prop} {H : Hp} : ∀ {ts : List V} {p : Pl} {z : Nat} {zs : List Nat}, WaysL Y N H ts p z zs → ∀ {n g : Nat}, zs[n]? = some g → ∀ i, i ≤ Y.hi + 1 → (g.testBit i = true ↔ iterP (Led Y.lo Y.hi p) n (inS z) i)
  | _, _, z, _, .nil, n, g, e => by
    match n, e with
    | 0, e =>
      obtain rfl : z = g := Option.some.inj e
      exact fun i _ => Iff.rfl
  | _, p, z, _, .snoc (ts := ts) (zs := zs) (g := g1) (g2 := g2) a b, n, g, e => by
    by_cases c : n < (zs ++ [g1]).length
    · rw [List.getElem?_append_left c] at e
      exact WaysL.bit a e
    · have c2 : n < (zs ++ [g1] ++ [g2]).length := (List.getElem?_eq_some_iff.mp e).1
      have en : n = (zs ++ [g1]).length := by rw [List.length_append (bs := [g2]), List.length_singleton] at c2; omega
      subst en
      rw [List.getElem?_concat_length] at e
      obtain rfl : g2 = g := Option.some.inj e
      have b1 := WaysL.bit a (n := zs.length) (g := g1) List.getElem?_concat_length
      rw [List.length_append, List.length_singleton]
      refine fun i hi' => (b.bits.bit i hi').trans ?_
      show Led Y.lo Y.hi p (inS g1) i ↔ Led Y.lo Y.hi p (iterP (Led Y.lo Y.hi p) zs.length (inS z)) i
      exact ⟨Led.congr p (fun j hj x => (b1 j hj).mp x) i hi', Led.congr p (fun j hj x => (b1 j hj).mpr x) i hi'⟩
theorem WaysL.zero {Y : Wy} {N : Addr → Prop} {H : Hp} : ∀ {ts : List V} {p : Pl} {z : Nat} {zs : List Nat}, WaysL Y N H ts p z zs → zs[0]? = some z
  | _, _, _, _, .nil => rfl
  | _, _, _, _, .snoc (zs := zs) (g := g) a b => by
    rw [List.getElem?_append_left (by rw [List.length_append, List.length_singleton]; omega)]
    exact WaysL.zero a
theorem WaysL.at {Y : Wy} {N : Addr → Prop} {H : Hp} : ∀ {ts : List V} {p : Pl} {z : Nat} {zs : List Nat}, WaysL Y N H ts p z zs → ∀ {k : Nat} {v : V}, ts[k]? = some v → ∃ g g2, zs[k]? = some g ∧ zs[k + 1]? = some g2 ∧ WayA Y N H v p g g2
  | _, _, _, _, .nil, k, v, e => nomatch e
  | _, p, z, _, .snoc (ts := ts) (zs := zs) (v := v1) (g := g1) (g2 := g2) a b, k, v, e => by
    have al := a.len
    rw [List.length_append, List.length_singleton] at al
    by_cases c : k < ts.length
    · rw [List.getElem?_append_left c] at e
      obtain ⟨g, g', h1, h2, h3⟩ := WaysL.at a e
      exact ⟨g, g', by rw [List.getElem?_append_left (by rw [List.length_append, List.length_singleton]; omega)]; exact h1, by rw [List.getElem?_append_left (by rw [List.length_append, List.length_singleton]; omega)]; exact h2, h3⟩
    · have c2 : k < (ts ++ [v1]).length := (List.getElem?_eq_some_iff.mp e).1
      have en : k = ts.length := by rw [List.length_append, List.length_singleton] at c2; omega
      subst en
      rw [List.getElem?_concat_length] at e
      obtain rfl : v1 = v := Option.some.inj e
      have el : ts.length = zs.length := by omega
      refine ⟨g1, g2, ?_, ?_, b⟩
      · rw [el, List.getElem?_append_left (by rw [List.length_append, List.length_singleton]; omega)]
        exact List.getElem?_concat_length
      · have : ts.length + 1 = (zs ++ [g1]).length := by rw [List.length_append, List.length_singleton, el]
        rw [this]
        exact List.getElem?_concat_length
section
variable {P : Program} {w : World} {K : PySem.W.Frag} {mg : Str → Option Value} {base : Heap} {CWt WP WK WR WE WL : Addr}
abbrev s_LoopWay_lead : Stmt := (C8.clsBody (top 38)).getD 1 (.Pass ⟨0, 0, 0, 0⟩)
theorem sc_LoopWay_lead : FnScope ["self", "gap", "delays", "times", "way"] ["self", "gap", "delays"] (C8.fnScope s_LoopWay_lead) := C8.fnScope_by (by decide +kernel)
theorem ok_llead {n : Nat} (T2 : TxtY K WP WK WR WE WL) (T : TxtJ K mg) {f : Addr} {fd : FuncData} (me : Meth K WL "lead" f) (F : C8.Fun K "lead" "LoopWay.lead" s_LoopWay_lead f fd) (b : Binds K fd ["self", "gap", "delays"] []) (m_lead : MetS P w K mg base (2 + n) (CsL K CWt WP WK WR WE WL n) "lead") (g_holds : C8.Cal P w K mg base 1 "holds" sp_holds []) :
    C8.Met P w K mg base (3 + n) WL "lead" (sp_ld K CWt WP WK WR WE WL (n + 1) 4) [] := by
  have lv : 3 + n = (2 + n) + 1 := by omega
  rw [lv]
  refine C8.met0 T2.cL me F b sc_LoopWay_lead (fun vs H Q E h => ?_) fun cdv A outer s H vs Q E hr h => ?_
  · obtain ⟨N, v, D, Wt, ds, p, g, lo, hi, l, z, gz, _, rfl, _⟩ := h; rfl
  · obtain ⟨N, v, D, Wt, ds, p, g, lo, hi, l, z, gz, hs, rfl, wa, nD, ⟨dw, hW⟩, l1, hD, ok, hg, ht, hm, q⟩ := h
    have nd := sc_LoopWay_lead.nd
    refine ⟨_, (pss_cons (ps_set (i := 3) nd rfl (Or.inl rfl) (pe_fld (pv 0) rfl))
      (pss_cons (ps_while PassesOwn.never (pt_not (pt_val (C8.pe_c g_holds hr (by first | decide | exact Nat.le_refl _ | omega) (by rfl) (pa_cons (pe_ix (r := rIxL K) ix_list (pe_fld (pv 0) rfl) (pv 3) (fun _ _ => rfl)) (pa_cons (pv 1) pa_nil))))) (pss_one (ps_aug (i := 3) nd rfl (Or.inl rfl) pe_int ip_add)))
      (pss_cons (ps_expr (pe_bmK (K := K) rfl PySem.F.plainAttrs_list PySem.F.slot_list_append PySem.F.type_list_append mt_append (pv 2) (pa_cons (pv 3) pa_nil)))
      (pss_cons (ps_for PassesOwn.never rfl (pi_revA (by rfl) T.n_reversed (pe_slice (r := rSlL K) sl_list (pe_fld (pv 0) rfl) po_none (po_some (pv 3)))) (pg_name (i := 4) nd rfl (Or.inl rfl)) (pss_one (ps_set (i := 1) nd rfl (Or.inl rfl) (pe_mtS m_lead hr (by first | decide | exact Nat.le_refl _ | omega) (pv 4) (pa_cons (pv 1) (pa_cons (pv 2) pa_nil))))))
      (pss_one (ps_ret (pv 1))))))), ?_⟩
    cases wa with
    | pat _ _ _ => cases hs
    | work _ _ _ => cases hs
    | row _ _ _ _ _ _ => cases hs
    | either _ _ _ _ _ _ => cases hs
    | @loop R dx TT O ts zs p a b _ _ h nR hT nT hO nO wl tl bt =>
      match l, ok with
      | 0, ok => unfold okP at ok; exact ok.elim
      | l + 1, ok =>
      unfold okP at ok
      have nRD : R ≠ D := fun y => nR (by rw [y]; exact nD)
      have nTD : TT ≠ D := fun y => nT (by rw [y]; exact nD)
      have nOD : O ≠ D := fun y => nO (by rw [y]; exact nD)
      have nWD : Wt ≠ D := ne_of hW hD (fun y => nomatch y)
      have hz := (bt.bit g hg).mp ht
      unfold Led at hz
      obtain ⟨n0, b1, b2, b3⟩ := hz
      have zl := wl.len
      have mxl : mx (.loop a b p) = 1 + 9 * mx p := by simp only [mx]
      walk_at "go"
      refine g_fldV rfl h T2.cL T2.lL rfl ?_
      refine w_loop (fun k σ H' => ∃ (d : Nat) (v4 : Option V), σ = [some (.ref R), some (nV g), some (.ref D), some (nV d), v4] ∧ H' = H ∧ a ≤ d ∧ d ≤ n0 ∧ k = n0 - d) (n0 - a) ?_ ?_
      · exact ⟨a, _, rfl, rfl, Nat.le_refl _, by omega, rfl⟩
      · rintro k σ H' ⟨d, v4, rfl, rfl, c1, c2, rfl⟩
        obtain ⟨gd, hgd⟩ : ∃ v, zs[d]? = some v := ⟨zs[d], List.getElem?_eq_getElem (by omega)⟩
        have bd := wl.bit hgd g hg
        walk_at "go"
        refine g_fldV rfl h T2.cL T2.lO rfl ?_
        walk_at "go"
        refine g_ixL (SqL.of hO) (atN (i := d) rfl hgd) ?_
        walk_at "go"
        refine ⟨gd, g, rfl, ?_⟩
        refine ⟨_, rfl, ?_⟩
        by_cases c : gd.testBit g = true
        · rw [if_neg (by rw [c]; exact Bool.false_ne_true)]
          walk_at "go"
          refine g_tyL hD ?_
          walk_at "go"
          have dl : ds.length < 16000000 := by omega
          refine ⟨_, _, _, rfl, rfl, hD, by rw [List.length_map]; exact Nat.lt_of_lt_of_le dl (by decide), ?_⟩
          have eD := upd_same (H := H') (a := D) (o := .lst (ds.map V.int ++ [nV d]))
          have eR := (upd_ne (H := H') (o := .lst (ds.map V.int ++ [nV d])) nRD).trans h
          have eT := (upd_ne (H := H') (o := .lst (ds.map V.int ++ [nV d])) nTD).trans hT
          have eW := (upd_ne (H := H') (o := .lst (ds.map V.int ++ [nV d])) nWD).trans hW
          have fD : Frm D H' (upd H' D (.lst (ds.map V.int ++ [nV d]))) := .set
          have wl2 := WaysL.keep (keepN (o := .lst (ds.map V.int ++ [nV d])) nD) wl
          generalize upd H' D (.lst (ds.map V.int ++ [nV d])) = H2 at eD eR eT eW fD wl2 ⊢
          have eD2 : H2 D = some (.lst ((ds ++ [(d : Int)]).map V.int)) := by rw [eD, List.map_append]; rfl
          walk_at "go"
          refine g_rev ?_
          walk_at "go"
          refine g_fldV rfl eR T2.cL T2.lT rfl ?_
          walk_at "go"
          refine g_slL (SqL.of eT) fun S hS => ?_
          rw [cut_toV _ (by omega)]
          have sS := same_new (o := .lst (ts.take d)) hS
          have eS := upd_same (H := H2) (a := S) (o := .lst (ts.take d))
          have nSD : S ≠ D := fun y => by rw [y, eD2] at hS; cases hS
          have fS := frm_trans fD (.of sS)
          have eD3 := sS _ _ eD2
          have eW3 := sS _ _ eW
          have wl3 := WaysL.same sS wl2
          generalize upd H2 S (.lst (ts.take d)) = H3 at sS eS fS eD3 eW3 wl3
          have tdl : (ts.take d).length = d := by rw [List.length_take]; omega
          refine w_revL (xs := ts.take d) (fun i σ H4 => ∃ (gi g1 : Nat) (as : List Int) (v4 : Option V), σ = [some (.ref R), some (nV g1), some (.ref D), some (nV d), v4] ∧ Frm D H3 H4 ∧ H4 D = some (.lst ((ds ++ (d : Int) :: as).map V.int)) ∧ zs[d - i]? = some gi ∧ gi.testBit g1 = true ∧ g1 ≤ hi + 1 ∧
            (∀ b g2, Go lo hi (iter (rn p) (d - i)) g1 b g2 → Go lo hi (iter (rn p) d) g (as ++ b) g2) ∧ as.length ≤ i * mx p) ?_ ?_ ?_ ?_
          · exact ⟨gd, g, [], _, rfl, fun b o _ h => h, by rw [eD3], hgd, c, hg, fun b g2 h => h, Nat.zero_le _⟩
          · rintro i σ H4 ⟨gi, g1, as, v4, rfl, f1, _⟩
            exact SqL.of (f1 _ _ nSD eS)
          · rintro i x σ H4 hi' hx ⟨gi, g1, as, v4, rfl, f1, e1, z1, t1, le1, go1, m1⟩
            rw [tdl] at hi' hx
            rw [List.getElem?_take_of_lt (by omega)] at hx
            obtain ⟨g3, g4, h3, h4, wa⟩ := wl3.at hx
            have ei : d - 1 - i + 1 = d - i := by omega
            rw [ei, z1] at h4
            obtain rfl := Option.some.inj h4
            have wa4 := WayA.keep (keepF nD f1) wa
            have e9 := Nat.mul_le_mul_right (mx p) (show i + 1 ≤ 9 by omega)
            rw [Nat.succ_mul] at e9
            walk_at "go"
            refine g_mtS ?_
            walk_at "go"
            refine use_ldV (l := l) rfl rfl wa4 nD ⟨dw, f1 _ _ nWD eW3⟩ l1 e1 ok.2.2.2 le1 t1 (by rw [List.length_append, List.length_cons]; omega) fun H5 as2 g2 f2 e2 go2 t2 le2 m2 => ?_
            walk_at "go"
            refine ⟨g3, g2, as ++ as2, _, rfl, frm_trans f1 f2, by rw [e2, List.append_assoc, List.cons_append], by rw [show d - (i + 1) = d - 1 - i by omega]; exact h3, t2, le2, fun b' g5 hb => ?_, by rw [List.length_append, Nat.succ_mul]; omega⟩
            rw [List.append_assoc]
            refine go1 _ _ ?_
            rw [show d - i = d - (i + 1) + 1 by omega]
            exact go_iter go2 hb
          · rintro σ H4 ⟨gi, g1, as, v4, rfl, f1, e1, z1, t1, le1, go1, m1⟩
            rw [tdl, Nat.sub_self] at z1 go1
            rw [tdl] at m1
            rw [wl.zero] at z1
            obtain rfl := Option.some.inj z1
            have e9 := Nat.mul_le_mul_right (mx p) (show d ≤ 9 by omega)
            walk_at "go"
            refine q _ ((d : Int) :: as) g1 (frm_trans fS f1) e1 (go_loop c1 (by omega) (by have := go1 [] g1 go_iter0; rw [List.append_nil] at this; exact this)) t1 le1 (by rw [List.length_cons]; omega)
        · rw [if_pos (by rw [Bool.not_eq_true] at c; rw [c]; rfl)]
          have ne : d ≠ n0 := fun y => by
            subst y
            exact c (bd.mpr b3)
          refine ⟨fun σ' H'' => ∃ (d' : Nat) (v4 : Option V), σ' = [some (.ref R), some (nV g), some (.ref D), some (nV d'), v4] ∧ H'' = H' ∧ a ≤ d' ∧ d' ≤ n0 ∧ d < d', fun σ' H'' ⟨d', v4, e1, e2, e3, e4, e5⟩ => ⟨n0 - d', by omega, d', v4, e1, e2, e3, e4, rfl⟩, ?_⟩
          refine ⟨_, rfl, ⟨_, _, rfl, rfl, ?_⟩⟩
          exact ⟨d + 1, _, rfl, rfl, by omega, by omega, by omega⟩
end
end K02
namespace K02
open PySem PySem.Spec PyProof.Rows L2 Wd RT
local macro_rules | `(tactic| walk_at "gs") => `(tactic| repeat (first
  | with_reducible refine Wd.g_seq ?_
  | ((with_reducible show L2.Ends.nx _ _ _); (with_reducible refine Wd.g_nx ?_))
  | with_reducible refine Wd.g_asg ?_
  | ((with_reducible refine' Wd.g_var ?h1 ?_); (case h1 => exact rfl))
  | with_reducible refine Wd.g_c ?_
  | with_reducible refine Wd.g_op ?_
  | with_reducible refine Wd.g_un ?_
  | with_reducible refine Wd.g_I0 ?_
  | with_reducible refine Wd.g_U ?_
  | with_reducible refine Wd.g_eqI ?_
  | with_reducible refine Wd.g_neI ?_
  | with_reducible refine Wd.g_eqS ?_
  | with_reducible refine Wd.g_neS ?_
  | with_reducible refine Wd.g_eqB ?_
  | with_reducible refine Wd.g_neB ?_
  | with_reducible refine Wd.g_isN ?_
  | with_reducible refine Wd.g_notN ?_
  | with_reducible refine Wd.g_lc ?_
  | with_reducible refine Wd.g_yes ?_
  | with_reducible refine Wd.g_test ?_
  | with_reducible refine Wd.g_tB ?_
  | with_reducible refine Wd.g_bl ?_
  | with_reducible refine Wd.g_blI ?_
  | with_reducible refine Wd.g_and ?_
  | with_reducible refine Wd.g_or ?_
  | with_reducible refine Wd.g_not ?_
  | with_reducible refine Wd.g_andV ?_
  | with_reducible refine Wd.g_orV ?_
  | with_reducible refine Wd.g_notV ?_
  | with_reducible refine Wd.g_if ?_
  | with_reducible refine Wd.g_chain ?_
  | with_reducible refine Wd.g_chain3 ?_
  | with_reducible refine Wd.g_nil ?_
  | with_reducible refine Wd.g_cons ?_
  | with_reducible refine Wd.g_tup ?_
  | with_reducible refine Wd.g_lst ?_
  | with_reducible refine Wd.g_CB ?_
  | with_reducible refine Wd.g_call ?_
  | with_reducible refine Wd.g_callS ?_
  | with_reducible refine Wd.g_bm ?_
  | with_reducible refine Wd.g_bm0 ?_
  | with_reducible refine Wd.g_sl ?_
  | with_reducible refine Wd.g_part ?_
  | with_reducible refine Wd.g_part1 ?_
  | with_reducible refine Wd.g_noPart ?_
  | with_reducible refine Wd.g_next ?_
  | with_reducible refine Wd.g_name ?_
  | with_reducible refine Wd.g_sub ?_
  | with_reducible refine Wd.g_gnil ?_
  | with_reducible refine Wd.g_gcons ?_
  | with_reducible refine Wd.g_drop ?_
  | with_reducible refine Wd.g_ret ?_
  | with_reducible refine Wd.g_retN ?_
  | with_reducible refine Wd.g_brk ?_
  | with_reducible refine Wd.g_cont ?_
  | ((with_reducible show L2.Ends.bk _ _ _); (with_reducible refine Wd.g_bk ?_))
  | ((with_reducible show L2.Ends.ct _ _ _); (with_reducible refine Wd.g_ct ?_))
  | ((with_reducible show L2.Ends.rt _ _ _); (with_reducible refine Wd.g_rt ?_))
  | with_reducible refine Wd.g_for ?_
  | with_reducible refine Wd.g_rng1 ?_
  | with_reducible refine Wd.g_rng2 ?_
  | with_reducible refine Wd.g_iList ?_
  | with_reducible refine Wd.g_iTup ?_
  | ((with_reducible refine Wd.g_fit ?h1 ?_); (case h1 => exact rfl))
  | with_reducible refine Wd.g_max2 ?_
  | with_reducible refine Wd.g_min2 ?_
  | with_reducible refine Wd.g_int1B ?_
  | with_reducible refine L2.iteT ?_
  | with_reducible refine L2.iteF ?_
  | ((with_reducible refine Wd.g_itT ?h1 ?_); (case h1 => exact rfl))
  | ((with_reducible refine Wd.g_itF ?h1 ?_); (case h1 => exact rfl))))
section
variable {P : Program} {w : World} {K : PySem.W.Frag} {mg : Str → Option Value} {base : Heap} {CWt WP WK WR WE WL : Addr}
theorem ld0 {s : Nat} (hs : 2 ≤ s) {vs : List V} {H : Hp} {Q : VK} {E : XK} (h : sp_ld K CWt WP WK WR WE WL 0 s vs H Q E) : False := by
  obtain ⟨N, v, D, Wt, ds, p, g, lo, hi, l, z, gz, e, _, _, _, _, _, _, ok, _⟩ := h
  cases p with
  | pat => simp only [shp] at e; omega
  | work a b => simp only [shp] at e; omega
  | row ps => unfold okP at ok; exact ok
  | either ps => unfold okP at ok; exact ok
  | loop a b p => unfold okP at ok; exact ok
theorem fn_ld0 {s : Nat} (hs : 2 ≤ s) {f : Addr} {fd : FuncData} {ps : List Str} : FnOk P w K mg base C8.CX0 2 f fd ps (sp_ld K CWt WP WK WR WE WL 0 s) :=
  ⟨fun vs H Q E h => (ld0 (K := K) (vs := vs) (H := H) (Q := Q) (E := E) hs h).elim, fun A o s H _ _ vs Q E _ _ _ _ h => (ld0 (K := K) (vs := vs) (H := H) (Q := Q) (E := E) hs h).elim⟩
theorem ok_lead (T2 : TxtY K WP WK WR WE WL) (T : TxtJ K mg) {fP fK fR fE fL : Addr} {dP dK dR dE dL : FuncData}
    (meP : Meth K WP "lead" fP) (FP : C8.Fun K "lead" "PatWay.lead" s_PatWay_lead fP dP) (bP : Binds K dP ["self", "gap", "delays"] [])
    (meK : Meth K WK "lead" fK) (FK : C8.Fun K "lead" "WorkWay.lead" s_WorkWay_lead fK dK) (bK : Binds K dK ["self", "gap", "delays"] [])
    (meR : Meth K WR "lead" fR) (FR : C8.Fun K "lead" "RowWay.lead" s_RowWay_lead fR dR) (bR : Binds K dR ["self", "gap", "delays"] [])
    (meE : Meth K WE "lead" fE) (FE : C8.Fun K "lead" "EitherWay.lead" s_EitherWay_lead fE dE) (bE : Binds K dE ["self", "gap", "delays"] [])
    (meL : Meth K WL "lead" fL) (FL : C8.Fun K "lead" "LoopWay.lead" s_LoopWay_lead fL dL) (bL : Binds K dL ["self", "gap", "delays"] [])
    (m_gbp : C8.Met P w K mg base 1 CWt "gap_behind_pat" (sp_gbp CWt) []) (m_gbw : C8.Met P w K mg base 1 CWt "gap_behind_work" (sp_gbw CWt) []) (g_holds : C8.Cal P w K mg base 1 "holds" sp_holds []) :
    ∀ n, MetS P w K mg base (2 + n) (CsL K CWt WP WK WR WE WL n) "lead"
  | 0 => fun c hc => by
    simp only [CsL, List.mem_cons, List.not_mem_nil, or_false] at hc
    rcases hc with rfl | rfl | rfl | rfl | rfl
    · exact ⟨2, Nat.le_refl _, ok_plead T2 meP FP bP m_gbp⟩
    · exact ⟨2, Nat.le_refl _, ok_klead T2 meK FK bK m_gbw g_holds⟩
    · exact ⟨2, Nat.le_refl _, fR, dR, ["self", "gap", "delays"], [], T2.cR, meR, fn_ld0 (by decide), bR, .nil⟩
    · exact ⟨2, Nat.le_refl _, fE, dE, ["self", "gap", "delays"], [], T2.cE, meE, fn_ld0 (by decide), bE, .nil⟩
    · exact ⟨2, Nat.le_refl _, fL, dL, ["self", "gap", "delays"], [], T2.cL, meL, fn_ld0 (by decide), bL, .nil⟩
  | n + 1 => fun c hc => by
    have ih := ok_lead T2 T meP FP bP meK FK bK meR FR bR meE FE bE meL FL bL m_gbp m_gbw g_holds n
    have lv : 2 + (n + 1) = 3 + n := by omega
    simp only [CsL, List.mem_cons, List.not_mem_nil, or_false] at hc
    rcases hc with rfl | rfl | rfl | rfl | rfl
    · exact ⟨2, by omega, ok_plead T2 meP FP bP m_gbp⟩
    · exact ⟨2, by omega, ok_klead T2 meK FK bK m_gbw g_holds⟩
    · exact ⟨3 + n, by omega, ok_rlead T2 T meR FR bR ih⟩
    · exact ⟨3 + n, by omega, ok_elead T2 T meE FE bE ih g_holds⟩
    · exact ⟨3 + n, by omega, ok_llead T2 T meL FL bL ih g_holds⟩
abbrev s_goals_of_rounds : Stmt := top 40
theorem sc_goals_of_rounds : FnScope ["watcher", "plan", "goals", "gaps"] ["watcher", "plan"] (C8.fnScope s_goals_of_rounds) := C8.fnScope_by (by decide +kernel)
/-- the goals of more rounds, the bite first -/
structure Chn (lo hi : Nat) (p : Pl) (zs : List Nat) : Prop where
  zero : zs[0]? = some (2 ^ (hi + 1))
  next : ∀ k a b, zs[k]? = some a → zs[k + 1]? = some b → Bits hi (Led lo hi p) a b
def sp_gr (CWt : Addr) (n : Nat) : Sp := fun vs H Q _ => ∃ (Wt : Addr) (lo hi : Nat) (v : V) (p : Pl) (l : Nat), vs = [.ref Wt, v] ∧ IsWt H CWt Wt lo hi ∧ lo ≤ hi ∧ hi ≤ 1000 ∧ PlA H v p ∧ okP n l p ∧
  (∀ H' Z, Same H H' → Bits hi (Led lo hi p) Z Z → Z.testBit (hi + 1) = true → Z.testBit 0 = false → Q .non H') ∧
  ∀ H' L zs g, Same H H' → H' L = some (.lst ((zs ++ [g]).map nV)) → Chn lo hi p (zs ++ [g]) → g.testBit 0 = true → zs.length ≤ hi + 1 → Q (.ref L) H'
theorem chn_snoc {lo hi : Nat} {p : Pl} {zs : List Nat} {g g2 : Nat} (h : Chn lo hi p (zs ++ [g])) (b : Bits hi (Led lo hi p) g g2) : Chn lo hi p (zs ++ [g] ++ [g2]) where
  zero := by rw [List.getElem?_append_left (by rw [List.length_append, List.length_singleton]; omega)]; exact h.zero
  next := fun k x y hx hy => by
    by_cases c : k + 1 < (zs ++ [g]).length
    · rw [List.getElem?_append_left c] at hy
      rw [List.getElem?_append_left (by omega)] at hx
      exact h.next k x y hx hy
    · have c2 : k + 1 < (zs ++ [g] ++ [g2]).length := (List.getElem?_eq_some_iff.mp hy).1
      rw [List.length_append (bs := [g2]), List.length_singleton] at c2
      rw [List.length_append, List.length_singleton] at c c2
      have ek : k = zs.length := by omega
      subst ek
      rw [show zs.length + 1 = (zs ++ [g]).length by rw [List.length_append]; rfl, List.getElem?_concat_length] at hy
      rw [List.getElem?_append_left (by rw [List.length_append, List.length_singleton]; omega), List.getElem?_concat_length] at hx
      obtain rfl := Option.some.inj hx
      obtain rfl := Option.some.inj hy
      exact b
theorem ok_gr {n : Nat} (T2 : TxtY K WP WK WR WE WL) (TW : TxtWt K CWt) (T : TxtJ K mg) {f : Addr} {fd : FuncData} (D : C8.Def K mg "goals_of_rounds" s_goals_of_rounds f fd) (b : Binds K fd ["watcher", "plan"] []) (g_holds : C8.Cal P w K mg base 1 "holds" sp_holds []) (g_way_to : C8.Cal P w K mg base (5 + 3 * n) "way_to" (sp_way CWt WP WK WR WE WL n) []) :
    C8.Cal P w K mg base (6 + 3 * n) "goals_of_rounds" (sp_gr CWt n) [] := by
  have lv : 6 + 3 * n = (5 + 3 * n) + 1 := by omega
  rw [lv]
  refine C8.cal0 D b .nil sc_goals_of_rounds (fun vs H Q E h => ?_) fun cdv A outer s H vs Q E hr h => ?_
  · obtain ⟨Wt, lo, hi, v, p, l, rfl, _⟩ := h; rfl
  · obtain ⟨Wt, lo, hi, v, p, l, rfl, ⟨dw, hW⟩, l1, l2, pA, ok, q1, q2⟩ := h
    have nd := sc_goals_of_rounds.nd
    refine ⟨_, (pss_cons (ps_set (i := 2) nd rfl (Or.inl rfl) (pe_lst (pa_cons (pe_fld (pv 0) rfl) pa_nil)))
      (pss_cons (ps_while PassesOwn.never (pt_not (pt_val (C8.pe_c g_holds hr (by first | decide | exact Nat.le_refl _ | omega) (by rfl) (pa_cons (pe_ix (r := rIxL K) ix_list (pv 2) (pe_un un_neg pe_int) (fun _ _ => rfl)) (pa_cons pe_int pa_nil))))) (pss_cons (ps_set (i := 3) nd rfl (Or.inl rfl) (pe_fld (C8.pe_c g_way_to hr (by first | decide | exact Nat.le_refl _ | omega) (by rfl) (pa_cons (pv 0) (pa_cons (pv 1) (pa_cons (pe_ix (r := rIxL K) ix_list (pv 2) (pe_un un_neg pe_int) (fun _ _ => rfl)) pa_nil)))) rfl))
      (pss_cons (ps_if (pt_cmpR op_eq (pv 3) (pe_ix (r := rIxL K) ix_list (pv 2) (pe_un un_neg pe_int) (fun _ _ => rfl)) (nomark _)) (pss_one (ps_ret pe_non)) pss_nil)
      (pss_one (ps_expr (pe_bmK (K := K) rfl PySem.F.plainAttrs_list PySem.F.slot_list_append PySem.F.type_list_append mt_append (pv 2) (pa_cons (pv 3) pa_nil)))))))
      (pss_one (ps_ret (pv 2))))), ?_⟩
    walk_at "go"
    refine g_fldV rfl hW TW.c TW.nI rfl ?_
    walk_at "go"
    intro L hL
    have s1 := same_new (o := .lst [nV (2 ^ (hi + 1))]) hL
    have e1 := upd_same (H := H) (a := L) (o := .lst [nV (2 ^ (hi + 1))])
    generalize upd H L (.lst [nV (2 ^ (hi + 1))]) = H1 at s1 e1
    walk_at "go"
    have one : ∀ i, i ≤ hi + 1 → inS (2 ^ (hi + 1)) i → Led lo hi p (inS (2 ^ (hi + 1))) i := fun i _ hi' => by
      have : hi + 1 = i := by rw [show inS (2 ^ (hi + 1)) i = ((2 ^ (hi + 1)).testBit i = true) from rfl, tb_one, decide_eq_true_eq] at hi'; exact hi'
      subst this
      exact led_bitten p ok hi'
    have bo : (2 ^ (hi + 1)).testBit (hi + 1) = true := by rw [tb_one]; exact decide_eq_true rfl
    have crd : 1 ≤ card (hi + 2) (2 ^ (hi + 1)) := by
      have c0 : Below (hi + 2) 0 := fun i h => by rw [Nat.zero_testBit] at h; cases h
      have := card_lt c0 (below_bite hi) (fun i h => by rw [Nat.zero_testBit] at h; cases h) (fun y => by rw [← y, Nat.zero_testBit] at bo; cases bo)
      omega
    refine w_loop (fun k σ H' => ∃ (zs : List Nat) (g : Nat) (v3 : Option V), σ = [some (.ref Wt), some v, some (.ref L), v3] ∧ Same H H' ∧ H' L = some (.lst ((zs ++ [g]).map nV)) ∧ Chn lo hi p (zs ++ [g]) ∧ Below (hi + 2) g ∧ g.testBit (hi + 1) = true ∧
      (∀ i, i ≤ hi + 1 → inS g i → Led lo hi p (inS g) i) ∧ zs.length + 1 ≤ card (hi + 2) g ∧ k = hi + 2 - zs.length) (hi + 2) ?_ ?_
    · refine ⟨[], 2 ^ (hi + 1), _, rfl, s1, e1, ⟨rfl, fun k a b ha hb => by rw [show ([] ++ [2 ^ (hi + 1)])[k + 1]? = none from rfl] at hb; cases hb⟩, below_bite hi, bo, one, crd, rfl⟩
    · rintro k σ H' ⟨zs, g, v3, rfl, f1, e2, ch, bg, bb, inc, cd, rfl⟩
      have cl := card_le (hi + 2) g
      have atg : atI ((zs ++ [g]).map nV) (-1) = some (nV g) := atI_back (by rw [List.length_map, List.length_append, List.length_singleton, Nat.add_sub_cancel, List.getElem?_map, List.getElem?_concat_length]; rfl)
      walk_at "go"
      refine g_ixL (SqL.of e2) atg ?_
      walk_at "go"
      refine ⟨g, 0, rfl, ?_⟩
      refine ⟨_, rfl, ?_⟩
      cases c : g.testBit 0 with
      | true =>
        rw [if_neg (by exact Bool.false_ne_true)]
        walk_at "go"
        exact q2 _ _ zs g f1 e2 ch c (by omega)
      | false =>
        rw [if_pos (by rfl)]
        refine ⟨fun σ' H'' => ∃ (zs2 : List Nat) (g2 : Nat) (v3 : Option V), σ' = [some (.ref Wt), some v, some (.ref L), v3] ∧ Same H H'' ∧ H'' L = some (.lst ((zs2 ++ [g2]).map nV)) ∧ Chn lo hi p (zs2 ++ [g2]) ∧ Below (hi + 2) g2 ∧ g2.testBit (hi + 1) = true ∧
          (∀ i, i ≤ hi + 1 → inS g2 i → Led lo hi p (inS g2) i) ∧ zs2.length + 1 ≤ card (hi + 2) g2 ∧ zs2.length = zs.length + 1, fun σ' H'' ⟨zs2, g2, v3, a1, a2, a3, a4, a5, a6, a7, a8, a9⟩ => ⟨hi + 2 - zs2.length, by omega, zs2, g2, v3, a1, a2, a3, a4, a5, a6, a7, a8, rfl⟩, ?_⟩
        walk_at "go"
        refine g_fld ?_
        walk_at "go"
        refine g_ixL (SqL.of e2) atg ?_
        walk_at "go"
        refine ⟨Wt, lo, hi, v, p, l, g, rfl, ⟨dw, f1 _ _ hW⟩, l1, l2, PlA_keep (keepT_same f1) _ _ pA, ok, bg, fun H3 u g2 s3 wa => ?_⟩
        obtain ⟨R', C', dx', fs', rfl, hR', _, cls', na', lk', _⟩ := WayA.at_ (K := K) T2 wa
        have bits : Bits hi (Led lo hi p) g g2 := wa.bits
        refine ⟨R', C', dx', fs', nV g2, rfl, hR', cls', na', lk', ?_⟩
        walk_at "go"
        have e3 := s3 _ _ e2
        refine g_ixL (SqL.of e3) atg ?_
        walk_at "go"
        by_cases c2 : g2 = g
        · rw [if_pos (decide_eq_true (by rw [c2]))]
          walk_at "go"
          subst c2
          exact q1 _ g2 (f1.trans s3) bits bb c
        · rw [if_neg (by rw [decide_eq_false (by omega)]; exact Bool.false_ne_true)]
          walk_at "go"
          refine g_tyL e3 ?_
          walk_at "go"
          refine g_append e3 (by rw [List.length_map, List.length_append, List.length_singleton]; omega) ?_
          have eq : (zs ++ [g]).map nV ++ [nV g2] = (zs ++ [g] ++ [g2]).map nV := by rw [List.map_append (l₂ := [g2])]; rfl
          rw [eq]
          have up : ∀ i, inS g i → inS g2 i := fun i h => (bits.bit i (by have := bg i h; omega)).mpr (inc i (by have := bg i h; omega) h)
          refine ⟨zs ++ [g], g2, _, rfl, fun b o h => ?_, upd_same, chn_snoc ch bits, bits.low, up _ bb, fun i hi' h => Led.mono p up i ((bits.bit i hi').mp h), ?_, by rw [List.length_append]; rfl⟩
          · have nbL : b ≠ L := ne_of_none h hL
            rw [upd_ne nbL]; exact s3 _ _ (f1 _ _ h)
          · have := card_lt bg bits.low up (fun y => c2 y.symm)
            rw [List.length_append, List.length_singleton]; omega
end
end K02
namespace K02
open PySem PySem.Spec PyProof.Rows L2 Wd
theorem iter_le {f : List Int → Int → Res} {B : Nat} (hf : ∀ ds t nq ds' t', f ds t = some (nq, ds', t') → nq.length ≤ B) : ∀ (n : Nat) (ds : List Int) (t : Int) (nq ds' : List Int) (t' : Int), iter f n ds t = some (nq, ds', t') → nq.length ≤ n * B
  | 0, ds, t, nq, ds', t', h => by simp only [iter, Option.some.injEq, Prod.mk.injEq] at h; rw [← h.1]; exact Nat.zero_le _
  | n + 1, ds, t, nq, ds', t', h => by
    simp only [iter] at h
    obtain ⟨a, d2, t2, b, h1, h2, rfl⟩ := seqR_inv h
    have := hf _ _ _ _ _ h1
    have := iter_le hf n _ _ _ _ _ h2
    rw [List.length_append, Nat.add_mul]
    omega
mutual
theorem np_le : ∀ (p : Pl) (d l : Nat) (ds : List Int) (t : Int) (nq ds' : List Int) (t' : Int), okP d l p → rn p ds t = some (nq, ds', t') → nq.length ≤ Wd.cnt p * 10 ^ l
  | .pat, d, l, ds, t, nq, ds', t', _, h => by
    simp only [rn, Option.some.injEq, Prod.mk.injEq] at h
    rw [← h.1]
    simp only [Wd.cnt, Nat.one_mul, List.length_singleton]; exact ten_pos l
  | .work _ _, d, l, [], t, nq, ds', t', _, h => by simp only [rn] at h; cases h
  | .work _ _, d, l, _ :: _, t, nq, ds', t', _, h => by
    simp only [rn] at h
    split at h
    · simp only [Option.some.injEq, Prod.mk.injEq] at h
      rw [← h.1]; exact Nat.zero_le _
    · cases h
  | .row ps, 0, l, _, _, _, _, _, h, _ => by unfold okP at h; exact h.elim
  | .row ps, d + 1, l, ds, t, nq, ds', t', ok, h => by
    unfold okP at ok
    simp only [rn] at h
    have := nps_le ps d l ds t nq ds' t' ok.2.2 h
    simp only [Wd.cnt, Nat.add_mul]
    omega
  | .either ps, 0, l, _, _, _, _, _, h, _ => by unfold okP at h; exact h.elim
  | .either _, d + 1, l, [], t, nq, ds', t', _, h => by simp only [rn] at h; cases h
  | .either ps, d + 1, l, x :: ds, t, nq, ds', t', ok, h => by
    unfold okP at ok
    simp only [rn] at h
    split at h
    · have := npAt_le ps x.toNat d l ds t nq ds' t' ok.2.2 h
      simp only [Wd.cnt, Nat.add_mul]
      omega
    · cases h
  | .loop _ _ _, 0, l, _, _, _, _, _, h, _ => by unfold okP at h; exact h.elim
  | .loop _ _ _, d + 1, 0, _, _, _, _, _, h, _ => by unfold okP at h; exact h.elim
  | .loop _ _ _, d + 1, l + 1, [], t, nq, ds', t', _, h => by simp only [rn] at h; cases h
  | .loop a b p, d + 1, l + 1, x :: ds, t, nq, ds', t', ok, h => by
    unfold okP at ok
    simp only [rn] at h
    split at h
    · rename_i bd
      have h1 := iter_le (fun ds t nq ds' t' e => np_le p d l ds t nq ds' t' ok.2.2.2 e) _ _ _ _ _ _ h
      have h9 : x.toNat ≤ 9 := by omega
      have h2 : x.toNat * (Wd.cnt p * 10 ^ l) ≤ 9 * (Wd.cnt p * 10 ^ l) := Nat.mul_le_mul_right _ h9
      simp only [Wd.cnt, Nat.add_mul, Nat.pow_succ]
      have e : Wd.cnt p * (10 ^ l * 10) = 10 * (Wd.cnt p * 10 ^ l) := by rw [← Nat.mul_assoc, Nat.mul_comm]
      omega
    · cases h
theorem nps_le : ∀ (ps : List Pl) (d l : Nat) (ds : List Int) (t : Int) (nq ds' : List Int) (t' : Int), okPs d l ps → rns ps ds t = some (nq, ds', t') → nq.length ≤ Wd.cnts ps * 10 ^ l
  | [], d, l, ds, t, nq, ds', t', _, h => by simp only [rns, Option.some.injEq, Prod.mk.injEq] at h; rw [← h.1]; exact Nat.zero_le _
  | p :: ps, d, l, ds, t, nq, ds', t', ok, h => by
    unfold okPs at ok
    simp only [rns] at h
    obtain ⟨a, d2, t2, b, h1, h2, rfl⟩ := seqR_inv h
    have := np_le p d l _ _ _ _ _ ok.1 h1
    have := nps_le ps d l _ _ _ _ _ ok.2 h2
    simp only [Wd.cnts, Nat.add_mul, List.length_append]
    omega
theorem npAt_le : ∀ (ps : List Pl) (n d l : Nat) (ds : List Int) (t : Int) (nq ds' : List Int) (t' : Int), okPs d l ps → rnAt ps n ds t = some (nq, ds', t') → nq.length ≤ Wd.cnts ps * 10 ^ l
  | [], n, d, l, ds, t, nq, ds', t', _, h => by simp only [rnAt] at h; cases h
  | p :: ps, 0, d, l, ds, t, nq, ds', t', ok, h => by
    unfold okPs at ok
    simp only [rnAt] at h
    have := np_le p d l _ _ _ _ _ ok.1 h
    simp only [Wd.cnts, Nat.add_mul]
    omega
  | p :: ps, n + 1, d, l, ds, t, nq, ds', t', ok, h => by
    unfold okPs at ok
    simp only [rnAt] at h
    have := npAt_le ps n d l _ _ _ _ _ ok.2 h
    simp only [Wd.cnts, Nat.add_mul]
    omega
end
end K02
namespace K02
open PySem PySem.Spec PyProof.Rows L2 Wd RT
local macro_rules | `(tactic| walk_at "gs") => `(tactic| repeat (first
  | with_reducible refine Wd.g_seq ?_
  | ((with_reducible show L2.Ends.nx _ _ _); (with_reducible refine Wd.g_nx ?_))
  | with_reducible refine Wd.g_asg ?_
  | ((with_reducible refine' Wd.g_var ?h1 ?_); (case h1 => exact rfl))
  | with_reducible refine Wd.g_c ?_
  | with_reducible refine Wd.g_op ?_
  | with_reducible refine Wd.g_un ?_
  | with_reducible refine Wd.g_I0 ?_
  | with_reducible refine Wd.g_U ?_
  | with_reducible refine Wd.g_eqI ?_
  | with_reducible refine Wd.g_neI ?_
  | with_reducible refine Wd.g_eqS ?_
  | with_reducible refine Wd.g_neS ?_
  | with_reducible refine Wd.g_eqB ?_
  | with_reducible refine Wd.g_neB ?_
  | with_reducible refine Wd.g_isN ?_
  | with_reducible refine Wd.g_notN ?_
  | with_reducible refine Wd.g_lc ?_
  | with_reducible refine Wd.g_yes ?_
  | with_reducible refine Wd.g_test ?_
  | with_reducible refine Wd.g_tB ?_
  | with_reducible refine Wd.g_bl ?_
  | with_reducible refine Wd.g_blI ?_
  | with_reducible refine Wd.g_and ?_
  | with_reducible refine Wd.g_or ?_
  | with_reducible refine Wd.g_not ?_
  | with_reducible refine Wd.g_andV ?_
  | with_reducible refine Wd.g_orV ?_
  | with_reducible refine Wd.g_notV ?_
  | with_reducible refine Wd.g_if ?_
  | with_reducible refine Wd.g_chain ?_
  | with_reducible refine Wd.g_chain3 ?_
  | with_reducible refine Wd.g_nil ?_
  | with_reducible refine Wd.g_cons ?_
  | with_reducible refine Wd.g_tup ?_
  | with_reducible refine Wd.g_lst ?_
  | with_reducible refine Wd.g_CB ?_
  | with_reducible refine Wd.g_call ?_
  | with_reducible refine Wd.g_callS ?_
  | with_reducible refine Wd.g_bm ?_
  | with_reducible refine Wd.g_bm0 ?_
  | with_reducible refine Wd.g_sl ?_
  | with_reducible refine Wd.g_part ?_
  | with_reducible refine Wd.g_part1 ?_
  | with_reducible refine Wd.g_noPart ?_
  | with_reducible refine Wd.g_next ?_
  | with_reducible refine Wd.g_name ?_
  | with_reducible refine Wd.g_sub ?_
  | with_reducible refine Wd.g_gnil ?_
  | with_reducible refine Wd.g_gcons ?_
  | with_reducible refine Wd.g_drop ?_
  | with_reducible refine Wd.g_ret ?_
  | with_reducible refine Wd.g_retN ?_
  | with_reducible refine Wd.g_brk ?_
  | with_reducible refine Wd.g_cont ?_
  | ((with_reducible show L2.Ends.bk _ _ _); (with_reducible refine Wd.g_bk ?_))
  | ((with_reducible show L2.Ends.ct _ _ _); (with_reducible refine Wd.g_ct ?_))
  | ((with_reducible show L2.Ends.rt _ _ _); (with_reducible refine Wd.g_rt ?_))
  | with_reducible refine Wd.g_for ?_
  | with_reducible refine Wd.g_rng1 ?_
  | with_reducible refine Wd.g_rng2 ?_
  | with_reducible refine Wd.g_iList ?_
  | with_reducible refine Wd.g_iTup ?_
  | ((with_reducible refine Wd.g_fit ?h1 ?_); (case h1 => exact rfl))
  | with_reducible refine Wd.g_max2 ?_
  | with_reducible refine Wd.g_min2 ?_
  | with_reducible refine Wd.g_int1B ?_
  | with_reducible refine L2.iteT ?_
  | with_reducible refine L2.iteF ?_
  | ((with_reducible refine Wd.g_itT ?h1 ?_); (case h1 => exact rfl))
  | ((with_reducible refine Wd.g_itF ?h1 ?_); (case h1 => exact rfl))))
theorem cut_last (zs : List Nat) (g : Nat) : cutV ((zs ++ [g]).map nV) none (some (-1)) = zs.map nV := by
  unfold cutV
  have e : HT.sIx ((zs ++ [g]).map nV).length ((zs ++ [g]).map nV).length (some (-1)) = zs.length := by
    show (if (-1 : Int) < 0 then ((-1 : Int) + ((((zs ++ [g]).map nV).length : Nat) : Int)).toNat else min (-1 : Int).toNat ((zs ++ [g]).map nV).length) = zs.length
    rw [if_pos (by decide), List.length_map, List.length_append, List.length_singleton]
    omega
  rw [e, HT.sIx_none, List.drop_zero, Nat.sub_zero, List.map_append, List.take_left' (by rw [List.length_map])]
theorem chn_below {lo hi : Nat} {p : Pl} {zs : List Nat} (h : Chn lo hi p zs) : ∀ {k g : Nat}, zs[k]? = some g → Below (hi + 2) g
  | 0, g, e => by rw [h.zero] at e; obtain rfl := Option.some.inj e; exact below_bite hi
  | k + 1, g, e => by
    have hl := (List.getElem?_eq_some_iff.mp e).1
    exact (h.next k zs[k] g (List.getElem?_eq_getElem (by omega)) e).low
section
variable {P : Program} {w : World} {K : PySem.W.Frag} {mg : Str → Option Value} {base : Heap} {CWt WP WK WR WE WL : Addr}
abbrev s_delays_of_rounds : Stmt := top 41
theorem sc_delays_of_rounds : FnScope ["watcher", "plan", "goals", "gap", "delays", "goal"] ["watcher", "plan", "goals"] (C8.fnScope s_delays_of_rounds) := C8.fnScope_by (by decide +kernel)
def sp_dr (CWt : Addr) (n : Nat) : Sp := fun vs H Q _ => ∃ (Wt L : Addr) (lo hi : Nat) (v : V) (p : Pl) (l : Nat) (zs : List Nat) (g0 : Nat), vs = [.ref Wt, v, .ref L] ∧ IsWt H CWt Wt lo hi ∧ lo ≤ hi ∧ hi ≤ 1000 ∧ PlA H v p ∧ okP n l p ∧ mx p ≤ 3000 ∧
  H L = some (.lst ((zs ++ [g0]).map nV)) ∧ Chn lo hi p (zs ++ [g0]) ∧ g0.testBit 0 = true ∧ zs.length ≤ hi + 1 ∧
  ∀ H' D as, Same H H' → H D = none → H' D = some (.lst (as.map V.int)) → Go lo hi (iter (rn p) zs.length) 0 as (hi + 1) → as.length ≤ zs.length * mx p → Q (.ref D) H'
theorem ok_dr {n : Nat} (T2 : TxtY K WP WK WR WE WL) (T : TxtJ K mg) {f : Addr} {fd : FuncData} (D : C8.Def K mg "delays_of_rounds" s_delays_of_rounds f fd) (b : Binds K fd ["watcher", "plan", "goals"] []) (m_lead : MetS P w K mg base (2 + n) (CsL K CWt WP WK WR WE WL n) "lead") (g_way_to : C8.Cal P w K mg base (5 + 3 * n) "way_to" (sp_way CWt WP WK WR WE WL n) []) :
    C8.Cal P w K mg base (6 + 3 * n) "delays_of_rounds" (sp_dr CWt n) [] := by
  have lv : 6 + 3 * n = (5 + 3 * n) + 1 := by omega
  rw [lv]
  refine C8.cal0 D b .nil sc_delays_of_rounds (fun vs H Q E h => ?_) fun cdv A outer s H vs Q E hr h => ?_
  · obtain ⟨Wt, L, lo, hi, v, p, l, zs, g0, rfl, _⟩ := h; rfl
  · obtain ⟨Wt, L, lo, hi, v, p, l, zs, g0, rfl, ⟨dw, hW⟩, l1, l2, pA, ok, mb, hL, ch, b0, zl, q⟩ := h
    have nd := sc_delays_of_rounds.nd
    refine ⟨_, (pss_cons (ps_set (i := 3) nd rfl (Or.inl rfl) pe_int)
      (pss_cons (ps_set (i := 4) nd rfl (Or.inl rfl) (pe_lst pa_nil))
      (pss_cons (ps_for PassesOwn.never rfl (pi_revA (by rfl) T.n_reversed (pe_slice (r := rSlL K) sl_list (pv 2) po_none (po_some (pe_un un_neg pe_int)))) (pg_name (i := 5) nd rfl (Or.inl rfl)) (pss_one (ps_set (i := 3) nd rfl (Or.inl rfl) (pe_mtS m_lead hr (by first | decide | exact Nat.le_refl _ | omega) (C8.pe_c g_way_to hr (by first | decide | exact Nat.le_refl _ | omega) (by rfl) (pa_cons (pv 0) (pa_cons (pv 1) (pa_cons (pv 5) pa_nil)))) (pa_cons (pv 3) (pa_cons (pv 4) pa_nil))))))
      (pss_one (ps_ret (pv 4)))))), ?_⟩
    walk_at "go"
    intro DD hD
    have s1 := same_new (o := .lst []) hD
    have e1 := upd_same (H := H) (a := DD) (o := .lst [])
    generalize upd H DD (.lst []) = H1 at s1 e1
    walk_at "go"
    refine g_rev ?_
    walk_at "go"
    refine g_slL (SqL.of (s1 _ _ hL)) fun S hS => ?_
    rw [cut_last]
    have sS := same_new (o := .lst (zs.map nV)) hS
    have eS := upd_same (H := H1) (a := S) (o := .lst (zs.map nV))
    have nSD : S ≠ DD := fun y => by rw [y, e1] at hS; cases hS
    have s2 := s1.trans sS
    have e2 := sS _ _ e1
    generalize upd H1 S (.lst (zs.map nV)) = H2 at sS eS s2 e2
    refine w_revL (xs := zs.map nV) (fun i σ H' => ∃ (g1 gi : Nat) (as : List Int) (v5 : Option V), σ = [some (.ref Wt), some v, some (.ref L), some (nV g1), some (.ref DD), v5] ∧ Same H H' ∧ H' S = some (.lst (zs.map nV)) ∧ H' DD = some (.lst (as.map V.int)) ∧ (zs ++ [g0])[zs.length - i]? = some gi ∧ gi.testBit g1 = true ∧ g1 ≤ hi + 1 ∧
      (∀ b g2, Go lo hi (iter (rn p) (zs.length - i)) g1 b g2 → Go lo hi (iter (rn p) zs.length) 0 (as ++ b) g2) ∧ as.length ≤ i * mx p) ?_ ?_ ?_ ?_
    · exact ⟨0, g0, [], _, rfl, s2, eS, e2, List.getElem?_concat_length, b0, Nat.zero_le _, fun b g2 h => h, Nat.zero_le _⟩
    · rintro i σ H' ⟨g1, gi, as, v5, rfl, f1, e3, _⟩
      exact SqL.of e3
    · rintro i x σ H3 hi' hx ⟨g1, gi, as, v5, rfl, f1, e3, d3, z1, t1, le1, go1, m1⟩
      rw [List.length_map] at hi' hx
      obtain ⟨gx, hgx, rfl⟩ : ∃ gx, zs[zs.length - 1 - i]? = some gx ∧ x = nV gx := by
        rw [List.getElem?_map] at hx
        cases hq : zs[zs.length - 1 - i]? with
        | none => rw [hq] at hx; cases hx
        | some y => rw [hq] at hx; exact ⟨y, rfl, (Option.some.inj hx).symm⟩
      have hgx2 : (zs ++ [g0])[zs.length - 1 - i]? = some gx := by rw [List.getElem?_append_left (by omega)]; exact hgx
      have bt := ch.next (zs.length - 1 - i) gx gi hgx2 (by rw [show zs.length - 1 - i + 1 = zs.length - i by omega]; exact z1)
      have e9 := Nat.mul_le_mul_right (mx p) (show i + 1 ≤ 1001 by omega)
      rw [Nat.succ_mul] at e9
      walk_at "go"
      refine g_mtS ?_
      walk_at "go"
      refine ⟨Wt, lo, hi, v, p, l, gx, rfl, ⟨dw, f1 _ _ hW⟩, l1, l2, PlA_keep (keepT_same f1) _ _ pA, ok, chn_below ch hgx2, fun H4 u gg s4 wa => ?_⟩
      have eg : gg = gi := Bits.uniq (F := Led lo hi p) (z := gx) (hi := hi) wa.bits bt
      subst eg
      have nD : H3 DD ≠ none := by rw [d3]; exact fun y => nomatch y
      refine use_ldV (l := l) rfl rfl wa nD ⟨dw, s4 _ _ (f1 _ _ hW)⟩ l1 (s4 _ _ d3) ok le1 t1 (by omega) fun H5 as2 g2 f2 e5 go2 t2 le2 m2 => ?_
      walk_at "go"
      refine ⟨g2, gx, as ++ as2, _, rfl, fun b o h => f2 _ _ (ne_of_none h hD) (s4 _ _ (f1 _ _ h)), f2 _ _ nSD (s4 _ _ e3), e5, by rw [show zs.length - (i + 1) = zs.length - 1 - i by omega]; exact hgx2, t2, le2, fun b' g5 hb => ?_, by rw [List.length_append, Nat.succ_mul]; omega⟩
      rw [List.append_assoc]
      refine go1 _ _ ?_
      rw [show zs.length - i = zs.length - (i + 1) + 1 by omega]
      exact go_iter go2 hb
    · rintro σ H3 ⟨g1, gi, as, v5, rfl, f1, e3, d3, z1, t1, le1, go1, m1⟩
      rw [List.length_map, Nat.sub_self] at z1 go1
      rw [List.length_map] at m1
      rw [ch.zero] at z1
      obtain rfl := Option.some.inj z1
      have eg : hi + 1 = g1 := by rw [tb_one, decide_eq_true_eq] at t1; exact t1
      subst eg
      walk_at "go"
      exact q _ DD as f1 hD d3 (by have := go1 [] (hi + 1) go_iter0; rw [List.append_nil] at this; exact this) m1
end
end K02
namespace K02
open PySem PySem.Spec PyProof.Rows L2 Wd RT
local macro_rules | `(tactic| walk_at "gs") => `(tactic| repeat (first
  | with_reducible refine Wd.g_seq ?_
  | ((with_reducible show L2.Ends.nx _ _ _); (with_reducible refine Wd.g_nx ?_))
  | with_reducible refine Wd.g_asg ?_
  | ((with_reducible refine' Wd.g_var ?h1 ?_); (case h1 => exact rfl))
  | with_reducible refine Wd.g_c ?_
  | with_reducible refine Wd.g_op ?_
  | with_reducible refine Wd.g_un ?_
  | with_reducible refine Wd.g_I0 ?_
  | with_reducible refine Wd.g_U ?_
  | with_reducible refine Wd.g_eqI ?_
  | with_reducible refine Wd.g_neI ?_
  | with_reducible refine Wd.g_eqS ?_
  | with_reducible refine Wd.g_neS ?_
  | with_reducible refine Wd.g_eqB ?_
  | with_reducible refine Wd.g_neB ?_
  | with_reducible refine Wd.g_isN ?_
  | with_reducible refine Wd.g_notN ?_
  | with_reducible refine Wd.g_lc ?_
  | with_reducible refine Wd.g_yes ?_
  | with_reducible refine Wd.g_test ?_
  | with_reducible refine Wd.g_tB ?_
  | with_reducible refine Wd.g_bl ?_
  | with_reducible refine Wd.g_blI ?_
  | with_reducible refine Wd.g_and ?_
  | with_reducible refine Wd.g_or ?_
  | with_reducible refine Wd.g_not ?_
  | with_reducible refine Wd.g_andV ?_
  | with_reducible refine Wd.g_orV ?_
  | with_reducible refine Wd.g_notV ?_
  | with_reducible refine Wd.g_if ?_
  | with_reducible refine Wd.g_chain ?_
  | with_reducible refine Wd.g_chain3 ?_
  | with_reducible refine Wd.g_nil ?_
  | with_reducible refine Wd.g_cons ?_
  | with_reducible refine Wd.g_tup ?_
  | with_reducible refine Wd.g_lst ?_
  | with_reducible refine Wd.g_CB ?_
  | with_reducible refine Wd.g_call ?_
  | with_reducible refine Wd.g_callS ?_
  | with_reducible refine Wd.g_bm ?_
  | with_reducible refine Wd.g_bm0 ?_
  | with_reducible refine Wd.g_sl ?_
  | with_reducible refine Wd.g_part ?_
  | with_reducible refine Wd.g_part1 ?_
  | with_reducible refine Wd.g_noPart ?_
  | with_reducible refine Wd.g_next ?_
  | with_reducible refine Wd.g_name ?_
  | with_reducible refine Wd.g_sub ?_
  | with_reducible refine Wd.g_gnil ?_
  | with_reducible refine Wd.g_gcons ?_
  | with_reducible refine Wd.g_drop ?_
  | with_reducible refine Wd.g_ret ?_
  | with_reducible refine Wd.g_retN ?_
  | with_reducible refine Wd.g_brk ?_
  | with_reducible refine Wd.g_cont ?_
  | ((with_reducible show L2.Ends.bk _ _ _); (with_reducible refine Wd.g_bk ?_))
  | ((with_reducible show L2.Ends.ct _ _ _); (with_reducible refine Wd.g_ct ?_))
  | ((with_reducible show L2.Ends.rt _ _ _); (with_reducible refine Wd.g_rt ?_))
  | with_reducible refine Wd.g_for ?_
  | with_reducible refine Wd.g_rng1 ?_
  | with_reducible refine Wd.g_rng2 ?_
  | with_reducible refine Wd.g_iList ?_
  | with_reducible refine Wd.g_iTup ?_
  | ((with_reducible refine Wd.g_fit ?h1 ?_); (case h1 => exact rfl))
  | with_reducible refine Wd.g_max2 ?_
  | with_reducible refine Wd.g_min2 ?_
  | with_reducible refine Wd.g_int1B ?_
  | with_reducible refine L2.iteT ?_
  | with_reducible refine L2.iteF ?_
  | ((with_reducible refine Wd.g_itT ?h1 ?_); (case h1 => exact rfl))
  | ((with_reducible refine Wd.g_itF ?h1 ?_); (case h1 => exact rfl))))
structure TxtQ (K : PySem.W.Frag) (mg : Str → Option Value) : Prop extends TxtJ K mg where
  c_GREATEST_HIGH : ∃ t, mg "GREATEST_HIGH" = some (.int 1000 t)
section
variable {P : Program} {w : World} {K : PySem.W.Frag} {mg : Str → Option Value} {base : Heap} {CWt CR WP WK WR WE WL : Addr}
abbrev s_check_window : Stmt := top 28
theorem sc_check_window : FnScope ["window", "low", "high"] ["window"] (C8.fnScope s_check_window) := C8.fnScope_by (by decide +kernel)
def sp_check_window (K : PySem.W.Frag) : Sp := fun vs H Q _ => ∃ (W : Addr) (lo hi : Int), vs = [.ref W] ∧ SqT K H W [.int lo, .int hi] ∧ (0 ≤ lo ∧ lo ≤ hi ∧ hi ≤ 1000) ∧ Q .non H
theorem ok_check_window (T : TxtQ K mg) {f : Addr} {fd : FuncData} (D : C8.Def K mg "check_window" s_check_window f fd) (b : Binds K fd ["window"] []) (g_is_range : C8.Cal P w K mg base 2 "is_range" sp_is_range []) : C8.Cal P w K mg base 3 "check_window" (sp_check_window K) [] := by
  refine C8.cal0 D b .nil sc_check_window (fun vs H Q E h => ?_) fun cdv A outer s H vs Q E hr h => ?_
  · obtain ⟨W, lo, hi, rfl, _⟩ := h; rfl
  · obtain ⟨W, lo, hi, rfl, hW, ok, q⟩ := h
    have nd := sc_check_window.nd
    obtain ⟨tg, c_GREATEST_HIGH⟩ := T.c_GREATEST_HIGH
    refine ⟨_, (pss_cons (ps_asg (pv 0) (pg_tup rfl (pgs_cons (pg_name (i := 1) nd rfl (Or.inl rfl)) (pgs_cons (pg_name (i := 2) nd rfl (Or.inl rfl)) pgs_nil))))
      (pss_one (ps_if (pt_not (pt_val (C8.pe_c g_is_range hr (by first | decide | exact Nat.le_refl _ | omega) (by rfl) (pa_cons (pv 1) (pa_cons (pv 2) (pa_cons (pe_glob (v := .int 1000) rfl c_GREATEST_HIGH ⟨_, rfl⟩) pa_nil)))))) (pss_one ps_never) pss_nil))), ?_⟩
    walk_at "go"
    refine g_gtup hW rfl ?_
    walk_at "go"
    refine ⟨lo, hi, 1000, rfl, ok, ?_⟩
    walk_at "go"
    exact q

/-! ### the first bite -/
def fb (lo hi : Int) : Int → List Int → Int × Str
  | last, [] => (last + hi + 1, ("late" : Str))
  | last, p :: ps => if p > last + hi then (last + hi + 1, ("late" : Str)) else if p < last + lo then (p, ("early" : Str)) else fb lo hi p ps
theorem fb_nil (lo hi last : Int) : fb lo hi last [] = (last + hi + 1, ("late" : Str)) := rfl
theorem fb_late {lo hi last p : Int} {ps : List Int} (h : p > last + hi) : fb lo hi last (p :: ps) = (last + hi + 1, ("late" : Str)) := if_pos h
theorem fb_early {lo hi last p : Int} {ps : List Int} (h : ¬ p > last + hi) (h2 : p < last + lo) : fb lo hi last (p :: ps) = (p, ("early" : Str)) := (if_neg h).trans (if_pos h2)
theorem fb_next {lo hi last p : Int} {ps : List Int} (h : ¬ p > last + hi) (h2 : ¬ p < last + lo) : fb lo hi last (p :: ps) = fb lo hi p ps := (if_neg h).trans (if_neg h2)

abbrev s_first_bite : Stmt := top 29
theorem sc_first_bite : FnScope ["window", "pats", "low", "high", "last", "pat"] ["window", "pats"] (C8.fnScope s_first_bite) := C8.fnScope_by (by decide +kernel)
def sp_first_bite (K : PySem.W.Frag) : Sp := fun vs H Q _ => ∃ (W S : Addr) (lo hi : Int) (ps : List Int), vs = [.ref W, .ref S] ∧ SqT K H W [.int lo, .int hi] ∧ SqL K H S (ps.map V.int) ∧
  ∀ q, H q = none → Q (.ref q) (upd H q (.tup [.int (fb lo hi 0 ps).1, .str (fb lo hi 0 ps).2]))
theorem ok_first_bite (T : TxtQ K mg) {f : Addr} {fd : FuncData} (D : C8.Def K mg "first_bite" s_first_bite f fd) (b : Binds K fd ["window", "pats"] []) : C8.Cal P w K mg base 1 "first_bite" (sp_first_bite K) [] := by
  refine C8.cal0 D b .nil sc_first_bite (fun vs H Q E h => ?_) fun cdv A outer s H vs Q E hr h => ?_
  · obtain ⟨W, S, lo, hi, ps, rfl, _⟩ := h; rfl
  · obtain ⟨W, S, lo, hi, ps, rfl, hW, hS, q⟩ := h
    have nd := sc_first_bite.nd
    refine ⟨_, (pss_cons (ps_asg (pv 0) (pg_tup rfl (pgs_cons (pg_name (i := 2) nd rfl (Or.inl rfl)) (pgs_cons (pg_name (i := 3) nd rfl (Or.inl rfl)) pgs_nil))))
      (pss_cons (ps_set (i := 4) nd rfl (Or.inl rfl) pe_int)
      (pss_cons (ps_for PassesOwn.never rfl (pi_list (pv 1)) (pg_name (i := 5) nd rfl (Or.inl rfl)) (pss_cons (ps_if (pt_cmpR op_gt (pv 5) (pe_op op_add (pv 4) (pv 3)) (nomark _)) (pss_one ps_break) pss_nil)
      (pss_cons (ps_if (pt_cmpR op_lt (pv 5) (pe_op op_add (pv 4) (pv 2)) (nomark _)) (pss_one (ps_ret (pe_tup (pa_cons (pv 5) (pa_cons pe_str pa_nil))))) pss_nil)
      (pss_one (ps_set (i := 4) nd rfl (Or.inl rfl) (pv 5))))))
      (pss_one (ps_ret (pe_tup (pa_cons (pe_op op_add (pe_op op_add (pv 4) (pv 3)) pe_int) (pa_cons pe_str pa_nil)))))))), ?_⟩
    walk_at "go"
    refine g_gtup hW rfl ?_
    walk_at "go"
    refine w_list (xs := ps.map V.int) (fun i σ H' => H' = H ∧ ∃ (last : Int) (v : Option V), σ = [some (.ref W), some (.ref S), some (.int lo), some (.int hi), some (.int last), v] ∧ fb lo hi 0 ps = fb lo hi last (ps.drop i)) ?_ ?_ ?_ ?_
    · exact ⟨rfl, 0, none, rfl, rfl⟩
    · rintro i σ H' _ ⟨rfl, _⟩; exact hS
    · rintro i x σ H' hx ⟨rfl, last, v, rfl, e⟩
      obtain ⟨p, hp, rfl⟩ : ∃ p, ps[i]? = some p ∧ x = V.int p := by
        rw [List.getElem?_map] at hx
        cases hq : ps[i]? with
        | none => rw [hq] at hx; cases hx
        | some z => rw [hq] at hx; exact ⟨z, rfl, (Option.some.inj hx).symm⟩
      have ed : ps.drop i = p :: ps.drop (i + 1) := by
        obtain ⟨hl, hh⟩ := List.getElem?_eq_some_iff.mp hp
        rw [List.drop_eq_getElem_cons hl, hh]
      rw [ed] at e
      walk_at "go"
      refine g_ite (fun h1 => ?_) (fun h1 => ?_)
      · rw [fb_late h1] at e
        rw [e] at q
        walk_at "go"
        exact q
      · walk_at "go"
        refine g_ite (fun h2 => ?_) (fun h2 => ?_)
        · rw [fb_early h1 h2] at e
          rw [e] at q
          walk_at "go"
          exact q
        · rw [fb_next h1 h2] at e
          walk_at "go"
          exact ⟨rfl, p, _, rfl, e⟩
    · rintro σ H' ⟨rfl, last, v, rfl, e⟩
      rw [List.length_map, List.drop_length, fb_nil] at e
      rw [e] at q
      walk_at "go"
      exact q
abbrev s_bite_of_rounds : Stmt := top 42
theorem sc_bite_of_rounds : FnScope ["window", "plan", "rounds", "delays", "run", "turn"] ["window", "plan", "rounds", "delays"] (C8.fnScope s_bite_of_rounds) := C8.fnScope_by (by decide +kernel)
def sp_br (K : PySem.W.Frag) (n : Nat) : Sp := fun vs H Q _ => ∃ (W DL : Addr) (lo hi : Int) (v : V) (p : Pl) (l m : Nat) (ds nq : List Int) (t' : Int), vs = [.ref W, v, nV m, .ref DL] ∧ SqT K H W [.int lo, .int hi] ∧ H W = some (.tup [.int lo, .int hi]) ∧ PlA H v p ∧ okP n l p ∧ H DL = some (.lst (ds.map V.int)) ∧ m ≤ 1001 ∧
  iter (rn p) m ds 0 = some (nq, [], t') ∧ nq.length ≤ 10000000 ∧ ∀ H' q, Same H H' → H' q = some (.tup [.int (fb lo hi 0 nq).1, .str (fb lo hi 0 nq).2]) → Q (.ref q) H'
theorem ok_br {n : Nat} (T : TxtQ K mg) (TR : TxtR K CR) {f : Addr} {fd : FuncData} (D : C8.Def K mg "bite_of_rounds" s_bite_of_rounds f fd) (b : Binds K fd ["window", "plan", "rounds", "delays"] []) (g_Run : C8.Mak P w K mg base 1 "Run" CR (sp_init CR) []) (m_follow : C8.Met P w K mg base (n + 3) CR "follow" (sp_follow K CR (n + 1)) []) (g_first_bite : C8.Cal P w K mg base 1 "first_bite" (sp_first_bite K) []) :
    C8.Cal P w K mg base (n + 4) "bite_of_rounds" (sp_br K n) [] := by
  refine C8.cal0 D b .nil sc_bite_of_rounds (fun vs H Q E h => ?_) fun cdv A outer s H vs Q E hr h => ?_
  · obtain ⟨W, DL, lo, hi, v, p, l, m, ds, nq, t', rfl, _⟩ := h; rfl
  · obtain ⟨W, DL, lo, hi, v, p, l, m, ds, nq, t', rfl, _, hW, pA, ok, hD, m1, it, sz, q⟩ := h
    have nd := sc_bite_of_rounds.nd
    have hr : Room (n + 3) _ := hr
    refine ⟨_, (pss_cons (ps_set (i := 4) nd rfl (Or.inl rfl) (C8.pe_mk g_Run hr (by first | decide | exact Nat.le_refl _ | omega) (by rfl) (pa_cons (pv 3) pa_nil)))
      (pss_cons (ps_for PassesOwn.never rfl (pi_range1 rfl T.n_range (pa_cons (pv 2) pa_nil)) (pg_name (i := 5) nd rfl (Or.inl rfl)) (pss_one (ps_expr (C8.pe_mt m_follow hr (by first | decide | exact Nat.le_refl _ | omega) (pv 4) (pa_cons (pv 1) pa_nil)))))
      (pss_one (ps_ret (C8.pe_c g_first_bite hr (by first | decide | exact Nat.le_refl _ | omega) (by rfl) (pa_cons (pv 0) (pa_cons (pe_fld (pv 4) rfl) pa_nil))))))), ?_⟩
    walk_at "go"
    refine g_make ?_
    walk_at "go"
    intro R dx hx hd nx
    obtain ⟨G, eG, s1, g1, k1, n1⟩ := made (C := CR) hx hd nx
    rw [eG]
    refine ⟨R, dx, DL, rfl, g1, fun H2 PA f2 hPA e2 e3 => ⟨rfl, ?_⟩⟩
    have s2 := k1 _ f2
    have nPA : H PA = none := by
      cases hq : H PA with
      | none => rfl
      | some o => rw [s1 _ _ hq] at hPA; cases hPA
    have nDL : DL ≠ PA := ne_of_none hD nPA
    walk_at "go"
    refine w_range (by omega) (by omega) (fun i σ H' => ∃ (u : Nat) (np np2 : List Int) (t1 : Int) (v5 : Option V), σ = [some (.ref W), some v, some (nV m), some (.ref DL), some (.ref R), v5] ∧ Same H H' ∧ H' R = some (.ins CR dx (runF DL PA u t1)) ∧ H' PA = some (.lst (np.map V.int)) ∧ u ≤ ds.length ∧
      iter (rn p) (m - i) (ds.drop u) t1 = some (np2, [], t') ∧ np ++ np2 = nq) ?_ ?_ ?_
    · exact ⟨0, [], nq, 0, _, rfl, s2, e2, e3, Nat.zero_le _, it, rfl⟩
    · rintro i σ H3 hi' ⟨u, np, np2, t1, v5, rfl, s3, r3, p3, hu, it3, ea⟩
      rw [show m - i = m - (i + 1) + 1 by omega] at it3
      simp only [iter] at it3
      obtain ⟨a2, d2, t2, b2, c1, c2, rfl⟩ := seqR_inv it3
      walk_at "go"
      refine ⟨_, rfl, R, dx, _, rfl, r3, lk_follow, ?_⟩
      walk_at "go"
      refine ⟨R, dx, DL, PA, u, t1, v, p, l, ds, np, a2, d2, t2, rfl, PlA_keep (keepT_same s3) _ _ pA, ok, r3, s3 _ _ hD, nDL, p3, hu, c1, by rw [← ea, List.length_append, List.length_append] at sz; omega, fun H4 u2 f4 hu2 eu2 r4 p4 => ?_⟩
      subst eu2
      walk_at "go"
      exact ⟨u2, np ++ a2, b2, t2, _, rfl, fun b o h => f4 _ _ (ne_of_none h hx) (ne_of_none h nPA) (s3 _ _ h), r4, p4, hu2, c2, by rw [List.append_assoc]; exact ea⟩
    · rintro σ H3 ⟨u, np, np2, t1, v5, rfl, s3, r3, p3, hu, it3, ea⟩
      rw [show m - ((m : Int)).toNat = 0 by omega] at it3
      simp only [iter, Option.some.injEq, Prod.mk.injEq] at it3
      obtain ⟨rfl, _, _⟩ := it3
      rw [List.append_nil] at ea
      subst ea
      walk_at "go"
      refine g_fldV rfl r3 TR.c TR.nP lk_p ?_
      walk_at "go"
      refine ⟨W, PA, lo, hi, np, rfl, SqT.of (s3 _ _ hW), SqL.of p3, fun z hz => ?_⟩
      walk_at "go"
      exact q _ z (s3.trans (same_new hz)) upd_same
end
end K02
namespace K02
open PySem PySem.Spec PyProof.Rows L2 Wd RT
local macro_rules | `(tactic| walk_at "gs") => `(tactic| repeat (first
  | with_reducible refine Wd.g_seq ?_
  | ((with_reducible show L2.Ends.nx _ _ _); (with_reducible refine Wd.g_nx ?_))
  | with_reducible refine Wd.g_asg ?_
  | ((with_reducible refine' Wd.g_var ?h1 ?_); (case h1 => exact rfl))
  | with_reducible refine Wd.g_c ?_
  | with_reducible refine Wd.g_op ?_
  | with_reducible refine Wd.g_un ?_
  | with_reducible refine Wd.g_I0 ?_
  | with_reducible refine Wd.g_U ?_
  | with_reducible refine Wd.g_eqI ?_
  | with_reducible refine Wd.g_neI ?_
  | with_reducible refine Wd.g_eqS ?_
  | with_reducible refine Wd.g_neS ?_
  | with_reducible refine Wd.g_eqB ?_
  | with_reducible refine Wd.g_neB ?_
  | with_reducible refine Wd.g_isN ?_
  | with_reducible refine Wd.g_notN ?_
  | with_reducible refine Wd.g_lc ?_
  | with_reducible refine Wd.g_yes ?_
  | with_reducible refine Wd.g_test ?_
  | with_reducible refine Wd.g_tB ?_
  | with_reducible refine Wd.g_bl ?_
  | with_reducible refine Wd.g_blI ?_
  | with_reducible refine Wd.g_and ?_
  | with_reducible refine Wd.g_or ?_
  | with_reducible refine Wd.g_not ?_
  | with_reducible refine Wd.g_andV ?_
  | with_reducible refine Wd.g_orV ?_
  | with_reducible refine Wd.g_notV ?_
  | with_reducible refine Wd.g_if ?_
  | with_reducible refine Wd.g_chain ?_
  | with_reducible refine Wd.g_chain3 ?_
  | with_reducible refine Wd.g_nil ?_
  | with_reducible refine Wd.g_cons ?_
  | with_reducible refine Wd.g_tup ?_
  | with_reducible refine Wd.g_lst ?_
  | with_reducible refine Wd.g_CB ?_
  | with_reducible refine Wd.g_call ?_
  | with_reducible refine Wd.g_callS ?_
  | with_reducible refine Wd.g_bm ?_
  | with_reducible refine Wd.g_bm0 ?_
  | with_reducible refine Wd.g_sl ?_
  | with_reducible refine Wd.g_part ?_
  | with_reducible refine Wd.g_part1 ?_
  | with_reducible refine Wd.g_noPart ?_
  | with_reducible refine Wd.g_next ?_
  | with_reducible refine Wd.g_name ?_
  | with_reducible refine Wd.g_sub ?_
  | with_reducible refine Wd.g_gnil ?_
  | with_reducible refine Wd.g_gcons ?_
  | with_reducible refine Wd.g_drop ?_
  | with_reducible refine Wd.g_ret ?_
  | with_reducible refine Wd.g_retN ?_
  | with_reducible refine Wd.g_brk ?_
  | with_reducible refine Wd.g_cont ?_
  | ((with_reducible show L2.Ends.bk _ _ _); (with_reducible refine Wd.g_bk ?_))
  | ((with_reducible show L2.Ends.ct _ _ _); (with_reducible refine Wd.g_ct ?_))
  | ((with_reducible show L2.Ends.rt _ _ _); (with_reducible refine Wd.g_rt ?_))
  | with_reducible refine Wd.g_for ?_
  | with_reducible refine Wd.g_rng1 ?_
  | with_reducible refine Wd.g_rng2 ?_
  | with_reducible refine Wd.g_iList ?_
  | with_reducible refine Wd.g_iTup ?_
  | ((with_reducible refine Wd.g_fit ?h1 ?_); (case h1 => exact rfl))
  | with_reducible refine Wd.g_max2 ?_
  | with_reducible refine Wd.g_min2 ?_
  | with_reducible refine Wd.g_int1B ?_
  | with_reducible refine L2.iteT ?_
  | with_reducible refine L2.iteF ?_
  | ((with_reducible refine Wd.g_itT ?h1 ?_); (case h1 => exact rfl))
  | ((with_reducible refine Wd.g_itF ?h1 ?_); (case h1 => exact rfl))))
section
variable {P : Program} {w : World} {K : PySem.W.Frag} {mg : Str → Option Value} {base : Heap} {CWt CR WP WK WR WE WL : Addr}
abbrev s_judged : Stmt := top 43
theorem sc_judged : FnScope ["window", "plan", "watcher", "goals", "rounds", "delays"] ["window", "plan"] (C8.fnScope s_judged) := C8.fnScope_by (by decide +kernel)
/-- safe: a set of gaps without 0 and with the bite, out of which nothing leads; bitten: a run that is bitten -/
def sp_jd (n : Nat) : Sp := fun vs H Q _ => ∃ (W : Addr) (lo hi : Nat) (v : V) (p : Pl) (l : Nat), vs = [.ref W, v] ∧ H W = some (.tup [nV lo, nV hi]) ∧ lo ≤ hi ∧ hi ≤ 1000 ∧ PlA H v p ∧ okP n l p ∧ n ≤ 5 ∧ l ≤ 2 ∧ cnt p ≤ 30 ∧
  (∀ H' t Z, Same H H' → H t = none → H' t = some (.tup [.str "safe"]) → Bits hi (Led lo hi p) Z Z → Z.testBit (hi + 1) = true → Z.testBit 0 = false → Q (.ref t) H') ∧
  ∀ H' t D q m ds nq t', Same H H' → H t = none → H D = none → D ≠ t → H' t = some (.tup [.str "bitten", nV m, .ref D, .ref q]) → H' D = some (.lst (ds.map V.int)) → H' q = some (.tup [.int (fb lo hi 0 nq).1, .str (fb lo hi 0 nq).2]) →
    m ≤ 1001 → iter (rn p) m ds 0 = some (nq, [], t') → gapOf lo hi nq t' = ((hi + 1 : Nat) : Int) → ds.length ≤ 3003000 → nq.length ≤ 3003000 → Q (.ref t) H'
theorem ok_judged {n : Nat} (T : TxtQ K mg) {f : Addr} {fd : FuncData} (D : C8.Def K mg "judged" s_judged f fd) (b : Binds K fd ["window", "plan"] []) (g_check_window : C8.Cal P w K mg base 3 "check_window" (sp_check_window K) []) (g_check_plan : C8.Cal P w K mg base 4 "check_plan" (sp_check_plan K) [])
    (g_Watcher : C8.Mak P w K mg base 1 "Watcher" CWt (sp_winit K CWt) []) (g_goals_of_rounds : C8.Cal P w K mg base (6 + 3 * n) "goals_of_rounds" (sp_gr CWt n) []) (g_delays_of_rounds : C8.Cal P w K mg base (6 + 3 * n) "delays_of_rounds" (sp_dr CWt n) []) (g_bite_of_rounds : C8.Cal P w K mg base (n + 4) "bite_of_rounds" (sp_br K n) []) :
    C8.Cal P w K mg base (7 + 3 * n) "judged" (sp_jd n) [] := by
  have lv : 7 + 3 * n = (6 + 3 * n) + 1 := by omega
  rw [lv]
  refine C8.cal0 D b .nil sc_judged (fun vs H Q E h => ?_) fun cdv A outer s H vs Q E hr h => ?_
  · obtain ⟨W, lo, hi, v, p, l, rfl, _⟩ := h; rfl
  · obtain ⟨W, lo, hi, v, p, l, rfl, hW, l1, l2, pA, ok, n5, ll, cn, q1, q2⟩ := h
    have nd := sc_judged.nd
    have m3 : mx p ≤ 3000 := by
      have h1 := mx_le p n l ok
      have h2 : 10 ^ l ≤ 10 ^ 2 := Nat.pow_le_pow_right (by decide) ll
      have h3 := Nat.mul_le_mul cn h2
      omega
    refine ⟨_, (pss_cons (ps_expr (C8.pe_c g_check_window hr (by first | decide | exact Nat.le_refl _ | omega) (by rfl) (pa_cons (pv 0) pa_nil)))
      (pss_cons (ps_expr (C8.pe_c g_check_plan hr (by first | decide | exact Nat.le_refl _ | omega) (by rfl) (pa_cons (pv 1) pa_nil)))
      (pss_cons (ps_set (i := 2) nd rfl (Or.inl rfl) (C8.pe_mk g_Watcher hr (by first | decide | exact Nat.le_refl _ | omega) (by rfl) (pa_cons (pv 0) pa_nil)))
      (pss_cons (ps_set (i := 3) nd rfl (Or.inl rfl) (C8.pe_c g_goals_of_rounds hr (by first | decide | exact Nat.le_refl _ | omega) (by rfl) (pa_cons (pv 2) (pa_cons (pv 1) pa_nil))))
      (pss_cons (ps_if (pt_cmpR op_isN1 (pv 3) pe_non (nomark _)) (pss_one (ps_ret (pe_tup (pa_cons pe_str pa_nil)))) pss_nil)
      (pss_cons (ps_set (i := 4) nd rfl (Or.inl rfl) (pe_op op_sub (pe_callB (r := Wd.rLen K) call_len1 (by rfl) T.n_len PySem.boot_len (pa_cons (pv 3) pa_nil)) pe_int))
      (pss_cons (ps_set (i := 5) nd rfl (Or.inl rfl) (C8.pe_c g_delays_of_rounds hr (by first | decide | exact Nat.le_refl _ | omega) (by rfl) (pa_cons (pv 2) (pa_cons (pv 1) (pa_cons (pv 3) pa_nil)))))
      (pss_one (ps_ret (pe_tup (pa_cons pe_str (pa_cons (pv 4) (pa_cons (pv 5) (pa_cons (C8.pe_c g_bite_of_rounds hr (by first | decide | exact Nat.le_refl _ | omega) (by rfl) (pa_cons (pv 0) (pa_cons (pv 1) (pa_cons (pv 4) (pa_cons (pv 5) pa_nil))))) pa_nil)))))))))))))), ?_⟩
    walk_at "go"
    refine ⟨W, lo, hi, rfl, SqT.of hW, ⟨by omega, by omega, by omega⟩, ?_⟩
    walk_at "go"
    refine ⟨v, p, n, l, rfl, pA, ok, n5, ll, cn, fun H1 s1 => ?_⟩
    walk_at "go"
    refine g_make ?_
    walk_at "go"
    intro x dx hx hd nx
    obtain ⟨G, eG, s2, g2, k2, n2⟩ := made (C := CWt) hx hd nx
    rw [eG]
    refine ⟨x, dx, W, lo, hi, rfl, g2, SqT.of (s2 _ _ (s1 _ _ hW)), l1, l2, fun H2 f2 e2 => ⟨rfl, ?_⟩⟩
    have s3 : Same H H2 := s1.trans (k2 _ f2)
    walk_at "go"
    refine ⟨x, lo, hi, v, p, l, rfl, ⟨dx, e2⟩, l1, l2, PlA_keep (keepT_same s3) _ _ pA, ok, fun H4 Z s4 bz z1 z0 => ?_, fun H4 L zs g s4 hL ch b0 zl => ?_⟩
    · walk_at "go"
      intro t ht
      walk_at "go"
      have s5 := s3.trans s4
      refine q1 _ t Z (s5.trans (same_new ht)) ?_ upd_same bz z1 z0
      cases hq : H t with
      | none => rfl
      | some o => rw [s5 _ _ hq] at ht; cases ht
    · have s5 := s3.trans s4
      walk_at "go"
      refine g_len (.inl (SqL.of hL)) ?_
      walk_at "go"
      have el : (((zs ++ [g]).map nV).length : Int) - 1 = ((zs.length : Nat) : Int) := by rw [List.length_map, List.length_append, List.length_singleton]; omega
      rw [el]
      walk_at "go"
      refine ⟨x, L, lo, hi, v, p, l, zs, g, rfl, ⟨dx, s4 _ _ e2⟩, l1, l2, PlA_keep (keepT_same s5) _ _ pA, ok, m3, hL, ch, b0, zl, fun H5 DD as s6 nD eD go al => ?_⟩
      have s7 := s5.trans s6
      have nDH : H DD = none := by
        cases hq : H DD with
        | none => rfl
        | some o => rw [s5 _ _ hq] at nD; cases nD
      obtain ⟨nq, t', it, gp⟩ := go [] 0
      rw [List.append_nil] at it
      have gp0 := gp [] (by unfold gapOf stL; simp only; omega)
      rw [List.nil_append] at gp0
      have al2 : as.length ≤ 3003000 := by
        have := Nat.mul_le_mul (show zs.length ≤ 1001 by omega) m3
        omega
      have nl : nq.length ≤ 3003000 := by
        have h1 := iter_le (B := cnt p * 10 ^ l) (fun ds t nq ds' t' h => np_le p n l ds t nq ds' t' ok h) zs.length as 0 nq [] t' it
        have h2 : 10 ^ l ≤ 10 ^ 2 := Nat.pow_le_pow_right (by decide) ll
        have h3 := Nat.mul_le_mul cn h2
        have h4 := Nat.mul_le_mul (show zs.length ≤ 1001 by omega) h3
        omega
      walk_at "go"
      refine ⟨W, DD, lo, hi, v, p, l, zs.length, as, nq, t', rfl, SqT.of (s7 _ _ hW), s7 _ _ hW, PlA_keep (keepT_same s7) _ _ pA, ok, eD, by omega, it, by omega, fun H6 qq s8 eq => ?_⟩
      walk_at "go"
      intro t ht
      walk_at "go"
      have s9 := s7.trans s8
      have eD6 := s8 _ _ eD
      refine q2 _ t DD qq zs.length as nq t' (s9.trans (same_new ht)) ?_ nDH (fun y => by rw [y, ht] at eD6; cases eD6) upd_same (same_new ht _ _ eD6) (same_new ht _ _ eq) (by omega) it gp0 al2 nl
      cases hq : H t with
      | none => rfl
      | some o => rw [s9 _ _ hq] at ht; cases ht
end
end K02
namespace K02
open PySem PySem.Spec PyProof.Rows L2 Wd
local macro_rules | `(tactic| walk_at "gs") => `(tactic| repeat (first
  | with_reducible refine Wd.g_seq ?_
  | ((with_reducible show L2.Ends.nx _ _ _); (with_reducible refine Wd.g_nx ?_))
  | with_reducible refine Wd.g_asg ?_
  | ((with_reducible refine' Wd.g_var ?h1 ?_); (case h1 => exact rfl))
  | with_reducible refine Wd.g_c ?_
  | with_reducible refine Wd.g_op ?_
  | with_reducible refine Wd.g_un ?_
  | with_reducible refine Wd.g_I0 ?_
  | with_reducible refine Wd.g_U ?_
  | with_reducible refine Wd.g_eqI ?_
  | with_reducible refine Wd.g_neI ?_
  | with_reducible refine Wd.g_eqS ?_
  | with_reducible refine Wd.g_neS ?_
  | with_reducible refine Wd.g_eqB ?_
  | with_reducible refine Wd.g_neB ?_
  | with_reducible refine Wd.g_isN ?_
  | with_reducible refine Wd.g_notN ?_
  | with_reducible refine Wd.g_lc ?_
  | with_reducible refine Wd.g_yes ?_
  | with_reducible refine Wd.g_test ?_
  | with_reducible refine Wd.g_tB ?_
  | with_reducible refine Wd.g_bl ?_
  | with_reducible refine Wd.g_blI ?_
  | with_reducible refine Wd.g_and ?_
  | with_reducible refine Wd.g_or ?_
  | with_reducible refine Wd.g_not ?_
  | with_reducible refine Wd.g_andV ?_
  | with_reducible refine Wd.g_orV ?_
  | with_reducible refine Wd.g_notV ?_
  | with_reducible refine Wd.g_if ?_
  | with_reducible refine Wd.g_chain ?_
  | with_reducible refine Wd.g_chain3 ?_
  | with_reducible refine Wd.g_nil ?_
  | with_reducible refine Wd.g_cons ?_
  | with_reducible refine Wd.g_tup ?_
  | with_reducible refine Wd.g_lst ?_
  | with_reducible refine Wd.g_CB ?_
  | with_reducible refine Wd.g_call ?_
  | with_reducible refine Wd.g_callS ?_
  | with_reducible refine Wd.g_bm ?_
  | with_reducible refine Wd.g_bm0 ?_
  | with_reducible refine Wd.g_sl ?_
  | with_reducible refine Wd.g_part ?_
  | with_reducible refine Wd.g_part1 ?_
  | with_reducible refine Wd.g_noPart ?_
  | with_reducible refine Wd.g_next ?_
  | with_reducible refine Wd.g_name ?_
  | with_reducible refine Wd.g_sub ?_
  | with_reducible refine Wd.g_gnil ?_
  | with_reducible refine Wd.g_gcons ?_
  | with_reducible refine Wd.g_drop ?_
  | with_reducible refine Wd.g_ret ?_
  | with_reducible refine Wd.g_retN ?_
  | with_reducible refine Wd.g_brk ?_
  | with_reducible refine Wd.g_cont ?_
  | ((with_reducible show L2.Ends.bk _ _ _); (with_reducible refine Wd.g_bk ?_))
  | ((with_reducible show L2.Ends.ct _ _ _); (with_reducible refine Wd.g_ct ?_))
  | ((with_reducible show L2.Ends.rt _ _ _); (with_reducible refine Wd.g_rt ?_))
  | with_reducible refine Wd.g_for ?_
  | with_reducible refine Wd.g_rng1 ?_
  | with_reducible refine Wd.g_rng2 ?_
  | with_reducible refine Wd.g_iList ?_
  | with_reducible refine Wd.g_iTup ?_
  | ((with_reducible refine Wd.g_fit ?h1 ?_); (case h1 => exact rfl))
  | with_reducible refine Wd.g_max2 ?_
  | with_reducible refine Wd.g_min2 ?_
  | with_reducible refine Wd.g_int1B ?_
  | with_reducible refine L2.iteT ?_
  | with_reducible refine L2.iteF ?_
  | ((with_reducible refine Wd.g_itT ?h1 ?_); (case h1 => exact rfl))
  | ((with_reducible refine Wd.g_itF ?h1 ?_); (case h1 => exact rfl))))
section
variable {P : Program} {w : World} {K : PySem.W.Frag} {mg : Str → Option Value} {base : Heap}
mutual
theorem okP_up : ∀ (p : Pl) (d l : Nat), okP d l p → okP (d + 1) l p
  | .pat, d, l, h => by unfold okP; trivial
  | .work _ _, d, l, h => by unfold okP at h ⊢; exact h
  | .row ps, 0, l, h => by unfold okP at h; exact h.elim
  | .row ps, d + 1, l, h => by unfold okP at h ⊢; exact ⟨h.1, h.2.1, okPs_up ps d l h.2.2⟩
  | .either ps, 0, l, h => by unfold okP at h; exact h.elim
  | .either ps, d + 1, l, h => by unfold okP at h ⊢; exact ⟨h.1, h.2.1, okPs_up ps d l h.2.2⟩
  | .loop a b p, 0, l, h => by unfold okP at h; exact h.elim
  | .loop a b p, d + 1, 0, h => by unfold okP at h; exact h.elim
  | .loop a b p, d + 1, l + 1, h => by unfold okP at h ⊢; exact ⟨h.1, h.2.1, h.2.2.1, okP_up p d l h.2.2.2⟩
theorem okPs_up : ∀ (ps : List Pl) (d l : Nat), okPs d l ps → okPs (d + 1) l ps
  | [], d, l, h => by unfold okPs; trivial
  | p :: ps, d, l, h => by unfold okPs at h ⊢; exact ⟨okP_up p d l h.1, okPs_up ps d l h.2⟩
end
abbrev s_law_plan : Stmt := top 48
theorem sc_law_plan : FnScope ["_law_state", "_law_deep", "_law_loops", "_law_way", "_law_least", "_law_k", "_law_many"] ["_law_state", "_law_deep", "_law_loops"] (C8.fnScope s_law_plan) := C8.fnScope_by (by decide +kernel)
def sp_plan (K : PySem.W.Frag) : Nat → Sp
  | 0 => fun _ _ _ _ => False
  | d + 1 => fun vs H Q _ => ∃ (B : Hp) (S : Addr) (deep : Int) (l : Nat), vs = [.ref S, .int deep, .int l] ∧ Dst K B H S ∧ deep ≤ d + 1 ∧ ∀ H' v p, Frm S H H' → Dst K B H' S → PlA H' v p → okP d l p → Q v H'
theorem use_plan {d : Nat} {B H : Hp} {S : Addr} {deep z : Int} {l : Nat} {Q : VK} {E : XK} (hd : Dst K B H S) (hz : z = l) (h : deep ≤ d) (hp : 0 < d) (k : ∀ H' v p, Frm S H H' → Dst K B H' S → PlA H' v p → okP (d - 1) l p → Q v H') : sp_plan K d ([.ref S, .int deep, .int z] ++ []) H Q E := by
  subst hz
  match d, hp with
  | d + 1, _ => exact ⟨B, S, deep, l, rfl, hd, by omega, k⟩
theorem plan_step (T : Txt K mg) {d : Nat} {f : Addr} {fd : FuncData} (D : C8.Def K mg "_law_plan" s_law_plan f fd) (b : Binds K fd ["_law_state", "_law_deep", "_law_loops"] []) (g_law_drawn : C8.Cal P w K mg base 1 "_law_drawn" (sp_drawn K) [])
    (g_law_plan : C8.Cal P w K mg base (d + 1) "_law_plan" (sp_plan K d) []) : C8.Cal P w K mg base (d + 2) "_law_plan" (sp_plan K (d + 1)) [] := by
  refine C8.cal0 D b .nil sc_law_plan (fun vs H Q E h => ?_) fun cdv A outer s H vs Q E hr h => ?_
  · obtain ⟨B, S, deep, l, rfl, _⟩ := h; rfl
  · obtain ⟨B, S, deep, l, rfl, hd, hdeep, q⟩ := h
    have nd := sc_law_plan.nd
    have hr : Room (d + 1) _ := hr
    refine ⟨_, (pss_cons (ps_set (i := 3) nd rfl (Or.inl rfl) (C8.pe_c g_law_drawn hr (by first | decide | exact Nat.le_refl _ | omega) (by rfl) (pa_cons (pv 0) (pa_cons pe_int pa_nil))))
      (pss_cons (ps_if (PW.pt (pw_or (pt_cmpR op_lt (pv 1) pe_int (nomark _)) (pw_or1 (pt_cmpR op_lt (pv 3) pe_int (nomark _))))) (pss_cons (ps_set (i := 4) nd rfl (Or.inl rfl) (C8.pe_c g_law_drawn hr (by first | decide | exact Nat.le_refl _ | omega) (by rfl) (pa_cons (pv 0) (pa_cons pe_int pa_nil))))
      (pss_one (ps_ret (pe_ix (r := rIxL K) ix_list (pe_lst (pa_cons (pe_tup (pa_cons pe_str pa_nil)) (pa_cons (pe_tup (pa_cons pe_str (pa_cons (pv 4) (pa_cons (pe_op op_add (pv 4) (C8.pe_c g_law_drawn hr (by first | decide | exact Nat.le_refl _ | omega) (by rfl) (pa_cons (pv 0) (pa_cons pe_int pa_nil)))) pa_nil)))) pa_nil))) (pe_callTy call_intB (by rfl) T.n_int (by decide +kernel) (pa_cons (pe_cmpR op_gt (pe_op op_mod (pv 3) pe_int) pe_int (nomark _)) pa_nil)) (fun _ _ => rfl))))) pss_nil)
      (pss_cons (ps_if (PW.pt (pw_or (pt_cmpR op_lt (pv 3) pe_int (nomark _)) (pw_or1 (PW.pt (pw_and (pt_cmpR op_eq (pv 3) pe_int (nomark _)) (pw_and1 (pt_cmpR op_eq (pv 2) pe_int (nomark _)))))))) (pss_one (ps_ret (pe_tup (pa_cons pe_str (pa_cons (pe_callTy (r := rTupOf K) call_tuple1 (by rfl) T.n_tuple (by decide +kernel) (pa_cons (pe_lc (own := [("_law_k", 5)]) (g := gName 5) (tt := tYes) rfl nd (pi_range1 rfl T.n_range (pa_cons (pe_op op_add pe_int (C8.pe_c g_law_drawn hr (by first | decide | exact Nat.le_refl _ | omega) (by rfl) (pa_cons (pv 0) (pa_cons pe_int pa_nil)))) pa_nil)) (blkOk_by (N := ["_law_state", "_law_deep", "_law_loops", "_law_way", "_law_least", "_law_k", "_law_many"]) (sc := C8.fnScope s_law_plan) (by decide +kernel)) (fun _ _ _ _ _ => pg_name (i := 5) nd rfl (Or.inl rfl)) (fun _ _ _ _ _ => pts_nil) (fun _ _ _ _ _ => (C8.pe_c g_law_plan hr (by first | decide | exact Nat.le_refl _ | omega) (by rfl) (pa_cons (pv 0) (pa_cons (pe_op op_sub (pv 1) pe_int) (pa_cons (pv 2) pa_nil)))))) pa_nil)) pa_nil))))) pss_nil)
      (pss_cons (ps_if (pt_cmpR op_eq (pv 3) pe_int (nomark _)) (pss_cons (ps_set (i := 6) nd rfl (Or.inr rfl) (pe_op op_add pe_int (C8.pe_c g_law_drawn hr (by first | decide | exact Nat.le_refl _ | omega) (by rfl) (pa_cons (pv 0) (pa_cons (pe_ix (r := rIxL K) ix_list (pe_lst (pa_cons pe_int (pa_cons pe_int (pa_cons pe_int (pa_cons pe_int pa_nil))))) (C8.pe_c g_law_drawn hr (by first | decide | exact Nat.le_refl _ | omega) (by rfl) (pa_cons (pv 0) (pa_cons pe_int pa_nil))) (fun _ _ => rfl)) pa_nil)))))
      (pss_one (ps_ret (pe_tup (pa_cons pe_str (pa_cons (pe_callTy (r := rTupOf K) call_tuple1 (by rfl) T.n_tuple (by decide +kernel) (pa_cons (pe_lc (own := [("_law_k", 5)]) (g := gName 5) (tt := tYes) rfl nd (pi_range1 rfl T.n_range (pa_cons (pv 6) pa_nil)) (blkOk_by (N := ["_law_state", "_law_deep", "_law_loops", "_law_way", "_law_least", "_law_k", "_law_many"]) (sc := C8.fnScope s_law_plan) (by decide +kernel)) (fun _ _ _ _ _ => pg_name (i := 5) nd rfl (Or.inl rfl)) (fun _ _ _ _ _ => pts_nil) (fun _ _ _ _ _ => (C8.pe_c g_law_plan hr (by first | decide | exact Nat.le_refl _ | omega) (by rfl) (pa_cons (pv 0) (pa_cons (pe_op op_sub (pe_op op_sub (pv 1) pe_int) (pe_callTy call_intB (by rfl) T.n_int (by decide +kernel) (pa_cons (pe_cmpR op_gt (pv 6) pe_int (nomark _)) pa_nil))) (pa_cons (pv 2) pa_nil)))))) pa_nil)) pa_nil)))))) pss_nil)
      (pss_cons (ps_set (i := 4) nd rfl (Or.inl rfl) (C8.pe_c g_law_drawn hr (by first | decide | exact Nat.le_refl _ | omega) (by rfl) (pa_cons (pv 0) (pa_cons (pe_ix (r := rIxL K) ix_list (pe_lst (pa_cons pe_int (pa_cons pe_int (pa_cons pe_int (pa_cons pe_int pa_nil))))) (C8.pe_c g_law_drawn hr (by first | decide | exact Nat.le_refl _ | omega) (by rfl) (pa_cons (pv 0) (pa_cons pe_int pa_nil))) (fun _ _ => rfl)) pa_nil))))
      (pss_one (ps_ret (pe_tup (pa_cons pe_str (pa_cons (pv 4) (pa_cons (pe_op op_add (pv 4) (C8.pe_c g_law_drawn hr (by first | decide | exact Nat.le_refl _ | omega) (by rfl) (pa_cons (pv 0) (pa_cons pe_int pa_nil)))) (pa_cons (C8.pe_c g_law_plan hr (by first | decide | exact Nat.le_refl _ | omega) (by rfl) (pa_cons (pv 0) (pa_cons (pe_op op_sub (pv 1) pe_int) (pa_cons (pe_op op_sub (pv 2) pe_int) pa_nil)))) pa_nil)))))))))))), ?_⟩
    walk_at "go"
    refine use_drawn (n := 9) hd (by decide) (by decide) fun H1 way f1 d1 w0 w1 => ?_
    walk_at "go"
    refine g_ite (fun hc => ?_) (fun hc => ?_)
    · --
      walk_at "go"
      refine use_drawn (n := 4) d1 (by decide) (by decide) fun H2 a f2 d2 a0 a1 => ?_
      walk_at "go"
      intro q1 hq1
      have d3 := d2.same (same_new (o := .tup [.str "pat"]) hq1)
      have L3 := Live.new (o := .tup [.str "pat"]) (L := []) Live.nil hq1 d2.has
      walk_at "go"
      refine use_drawn (n := 3) d3 (by decide) (by decide) fun H4 c f4 d4 c0 c1 => ?_
      have L4 := L3.frm f4
      walk_at "go"
      intro q2 hq2
      have d5 := d4.same (same_new (o := .tup [.str "work", .int a, .int (a + c)]) hq2)
      have L5 := L4.new (o := .tup [.str "work", .int a, .int (a + c)]) hq2 d4.has
      walk_at "go"
      intro l hl
      have d6 := d5.same (same_new (o := .lst [.ref q1, .ref q2]) hl)
      have L6 := L5.new (o := .lst [.ref q1, .ref q2]) hl d5.has
      walk_at "go"
      refine g_I (show (0 : Int) < 5 by decide) ?_
      walk_at "go"
      have fr : Frm S H _ := ((((f1.trans f2).trans (.new hq1)).trans f4).trans (.new hq2)).trans (.new (o := .lst [.ref q1, .ref q2]) hl)
      by_cases hw : way % 5 > 1
      · refine g_ixL (v := .ref q2) (SqL.of upd_same) (by rw [show decide (1 < way % 5) = true from decide_eq_true hw]; rfl) ?_
        exact q _ _ (.work a (a + c)) fr d6 (.work (L6.get 1 rfl)) (by unfold okP; exact ⟨a0, by omega, by omega⟩)
      · refine g_ixL (v := .ref q1) (SqL.of upd_same) (by rw [show decide (1 < way % 5) = false from decide_eq_false hw]; rfl) ?_
        exact q _ _ .pat fr d6 (.pat (L6.get 2 rfl)) (by unfold okP; trivial)
    · walk_at "go"
      refine g_ite (fun hc2 => ?_) (fun hc2 => ?_)
      · --
        walk_at "go"
        refine use_drawn (n := 4) d1 (by decide) (by decide) fun H2 a f2 d2 a0 a1 => ?_
        walk_at "go"
        intro q1 hq1
        have d3 := d2.same (same_new (o := .tup [.str "pat"]) hq1)
        have L3 := Live.new (o := .tup [.str "pat"]) (L := []) Live.nil hq1 d2.has
        walk_at "go"
        refine use_drawn (n := 3) d3 (by decide) (by decide) fun H4 c f4 d4 c0 c1 => ?_
        have L4 := L3.frm f4
        walk_at "go"
        intro q2 hq2
        have d5 := d4.same (same_new (o := .tup [.str "work", .int a, .int (a + c)]) hq2)
        have L5 := L4.new (o := .tup [.str "work", .int a, .int (a + c)]) hq2 d4.has
        walk_at "go"
        intro l hl
        have d6 := d5.same (same_new (o := .lst [.ref q1, .ref q2]) hl)
        have L6 := L5.new (o := .lst [.ref q1, .ref q2]) hl d5.has
        walk_at "go"
        refine g_I (show (0 : Int) < 5 by decide) ?_
        walk_at "go"
        have fr : Frm S H _ := ((((f1.trans f2).trans (.new hq1)).trans f4).trans (.new hq2)).trans (.new (o := .lst [.ref q1, .ref q2]) hl)
        by_cases hw : way % 5 > 1
        · refine g_ixL (v := .ref q2) (SqL.of upd_same) (by rw [show decide (1 < way % 5) = true from decide_eq_true hw]; rfl) ?_
          exact q _ _ (.work a (a + c)) fr d6 (.work (L6.get 1 rfl)) (by unfold okP; exact ⟨a0, by omega, by omega⟩)
        · refine g_ixL (v := .ref q1) (SqL.of upd_same) (by rw [show decide (1 < way % 5) = false from decide_eq_false hw]; rfl) ?_
          exact q _ _ .pat fr d6 (.pat (L6.get 2 rfl)) (by unfold okP; trivial)
      · have dpos : 0 < d := by omega
        obtain ⟨d, rfl⟩ : ∃ d', d = d' + 1 := ⟨d - 1, by omega⟩
        walk_at "go"
        refine g_ite (fun h7 => ?_) (fun h7 => ?_)
        · --
          walk_at "go"
          refine use_drawn (n := 3) d1 (by decide) (by decide) fun H2 c f2 d2 c0 c1 => ?_
          have f12 := f1.trans f2
          walk_at "go"
          refine w_lcRange (by omega) (by omega) (fun D i H' => ∃ (vs : List V) (ps : List Pl), Frm S H H' ∧ Dst K B H' S ∧ H' D = some (.lst vs) ∧ PlAs H' vs ps ∧ okPs d l ps ∧ ps.length = i) ?_ ?_ ?_
          · intro D hD
            exact ⟨[], [], f12.trans (.new hD), d2.same (same_new hD), upd_same, .nil, by unfold okPs; trivial, rfl⟩
          · rintro D i H5 hD hi ⟨vs, ps, f5, d5, e5, p5, o5, l5⟩
            have nD := d2.ne hD
            have hD0 := f12.back nD hD
            walk_at "go"
            refine ⟨rfl, ?_⟩
            walk_at "go"
            refine use_plan d5 rfl (by omega) (by omega) fun H6 v p f6 d6 pv po => ?_
            walk_at "go"
            have e6 := f6 _ _ nD e5
            refine ⟨vs, e6, small_lt (by rw [p5.len, l5]; omega), ?_⟩
            exact ⟨vs ++ [v], ps ++ [p], (f5.trans f6).mut hD0, d6.mut nD (d2.fresh hD), upd_same, (PlAs_keep ((keepT_frm d5 f6).trans (keepT_lst e6)) _ _ p5).snoc (PlA_keep (keepT_lst e6) _ _ pv), okPs_snoc o5 po, by rw [List.length_append, l5]; rfl⟩
          · rintro D H5 hD ⟨vs, ps, f5, d5, e5, p5, o5, l5⟩
            walk_at "go"
            refine g_tupOf (SqL.of e5) ?_
            intro t ht
            have d6 := d5.same (same_new (o := .tup vs) ht)
            walk_at "go"
            intro r hr
            exact q _ _ (.row ps) ((f5.trans (.new ht)).trans (.new hr)) (d6.same (same_new hr)) (.row upd_same (same_new hr _ _ upd_same) (PlAs_keep ((keepT_new ht).trans (keepT_new hr)) _ _ p5)) (by unfold okP; exact ⟨by omega, by omega, o5⟩)
        · walk_at "go"
          refine g_ite (fun h8 => ?_) (fun h8 => ?_)
          · walk_at "go"
            refine g_ite (fun h0 => ?_) (fun h0 => ?_)
            · --
              walk_at "go"
              refine use_drawn (n := 3) d1 (by decide) (by decide) fun H2 c f2 d2 c0 c1 => ?_
              have f12 := f1.trans f2
              walk_at "go"
              refine w_lcRange (by omega) (by omega) (fun D i H' => ∃ (vs : List V) (ps : List Pl), Frm S H H' ∧ Dst K B H' S ∧ H' D = some (.lst vs) ∧ PlAs H' vs ps ∧ okPs d l ps ∧ ps.length = i) ?_ ?_ ?_
              · intro D hD
                exact ⟨[], [], f12.trans (.new hD), d2.same (same_new hD), upd_same, .nil, by unfold okPs; trivial, rfl⟩
              · rintro D i H5 hD hi ⟨vs, ps, f5, d5, e5, p5, o5, l5⟩
                have nD := d2.ne hD
                have hD0 := f12.back nD hD
                walk_at "go"
                refine ⟨rfl, ?_⟩
                walk_at "go"
                refine use_plan d5 rfl (by omega) (by omega) fun H6 v p f6 d6 pv po => ?_
                walk_at "go"
                have e6 := f6 _ _ nD e5
                refine ⟨vs, e6, small_lt (by rw [p5.len, l5]; omega), ?_⟩
                exact ⟨vs ++ [v], ps ++ [p], (f5.trans f6).mut hD0, d6.mut nD (d2.fresh hD), upd_same, (PlAs_keep ((keepT_frm d5 f6).trans (keepT_lst e6)) _ _ p5).snoc (PlA_keep (keepT_lst e6) _ _ pv), okPs_snoc o5 po, by rw [List.length_append, l5]; rfl⟩
              · rintro D H5 hD ⟨vs, ps, f5, d5, e5, p5, o5, l5⟩
                walk_at "go"
                refine g_tupOf (SqL.of e5) ?_
                intro t ht
                have d6 := d5.same (same_new (o := .tup vs) ht)
                walk_at "go"
                intro r hr
                exact q _ _ (.row ps) ((f5.trans (.new ht)).trans (.new hr)) (d6.same (same_new hr)) (.row upd_same (same_new hr _ _ upd_same) (PlAs_keep ((keepT_new ht).trans (keepT_new hr)) _ _ p5)) (by unfold okP; exact ⟨by omega, by omega, o5⟩)
            · --
              walk_at "go"
              refine g_ite (fun h9 => ?_) (fun h9 => ?_)
              · walk_at "go"
                intro l1 hl1
                have d2 := d1.same (same_new (o := .lst [.int 3, .int 3, .int 3, .int 10]) hl1)
                walk_at "go"
                refine use_drawn (n := 4) d2 (by decide) (by decide) fun H3 a f3 d3 a0 a1 => ?_
                have e3 := f3 _ _ (d1.ne hl1) upd_same
                obtain ⟨x, hx, hx2⟩ := atI_mem (xs := [.int 3, .int 3, .int 3, .int 10]) a0 a1
                refine g_ixL (SqL.of e3) hx2 ?_
                obtain ⟨n, rfl, n0, n1⟩ : ∃ z, x = V.int z ∧ 0 < z ∧ z ≤ 10 := by
                  simp only [List.mem_cons, List.not_mem_nil, or_false] at hx
                  rcases hx with rfl | rfl | rfl | rfl <;> exact ⟨_, rfl, by decide, by decide⟩
                walk_at "go"
                refine use_drawn d3 n0 (by omega) fun H4 c f4 d4 c0 c1 => ?_
                have f14 := ((f1.trans (.new hl1)).trans f3).trans f4
                walk_at "go"
                refine w_lcRange (by omega) (by omega) (fun D i H' => ∃ (vs : List V) (ps : List Pl), Frm S H H' ∧ Dst K B H' S ∧ H' D = some (.lst vs) ∧ PlAs H' vs ps ∧ okPs d l ps ∧ ps.length = i) ?_ ?_ ?_
                · intro D hD
                  exact ⟨[], [], f14.trans (.new hD), d4.same (same_new hD), upd_same, .nil, by unfold okPs; trivial, rfl⟩
                · rintro D i H5 hD hi ⟨vs, ps, f5, d5, e5, p5, o5, l5⟩
                  have nD := d4.ne hD
                  have hD0 := f14.back nD hD
                  walk_at "go"
                  refine ⟨rfl, ?_⟩
                  walk_at "go"
                  refine use_plan d5 rfl (by split <;> omega) (by omega) fun H6 v p f6 d6 pv po => ?_
                  walk_at "go"
                  have e6 := f6 _ _ nD e5
                  refine ⟨vs, e6, small_lt (by rw [p5.len, l5]; omega), ?_⟩
                  exact ⟨vs ++ [v], ps ++ [p], (f5.trans f6).mut hD0, d6.mut nD (d4.fresh hD), upd_same, (PlAs_keep ((keepT_frm d5 f6).trans (keepT_lst e6)) _ _ p5).snoc (PlA_keep (keepT_lst e6) _ _ pv), okPs_snoc o5 po, by rw [List.length_append, l5]; rfl⟩
                · rintro D H5 hD ⟨vs, ps, f5, d5, e5, p5, o5, l5⟩
                  walk_at "go"
                  refine g_tupOf (SqL.of e5) ?_
                  intro t ht
                  have d6 := d5.same (same_new (o := .tup vs) ht)
                  walk_at "go"
                  intro r hr
                  exact q _ _ (.either ps) ((f5.trans (.new ht)).trans (.new hr)) (d6.same (same_new hr)) (.either upd_same (same_new hr _ _ upd_same) (PlAs_keep ((keepT_new ht).trans (keepT_new hr)) _ _ p5)) (by unfold okP; exact ⟨by omega, by omega, o5⟩)
              · walk_at "go"
                intro l1 hl1
                have d2 := d1.same (same_new (o := .lst [.int 2, .int 2, .int 2, .int 9]) hl1)
                walk_at "go"
                refine use_drawn (n := 4) d2 (by decide) (by decide) fun H3 a f3 d3 a0 a1 => ?_
                have e3 := f3 _ _ (d1.ne hl1) upd_same
                obtain ⟨x, hx, hx2⟩ := atI_mem (xs := [.int 2, .int 2, .int 2, .int 9]) a0 a1
                refine g_ixL (SqL.of e3) hx2 ?_
                obtain ⟨n, rfl, n0, n1⟩ : ∃ z, x = V.int z ∧ 0 < z ∧ z ≤ 9 := by
                  simp only [List.mem_cons, List.not_mem_nil, or_false] at hx
                  rcases hx with rfl | rfl | rfl | rfl <;> exact ⟨_, rfl, by decide, by decide⟩
                walk_at "go"
                refine use_drawn d3 n0 (by omega) fun H4 c f4 d4 c0 c1 => ?_
                walk_at "go"
                refine use_drawn (n := 2) d4 (by decide) (by decide) fun H5 g f5 d5 g0 g1 => ?_
                walk_at "go"
                have lpos : 0 < l := by omega
                obtain ⟨l, rfl⟩ : ∃ l', l = l' + 1 := ⟨l - 1, by omega⟩
                refine use_plan (l := l) d5 (by omega) (by omega) (by omega) fun H6 v p f6 d6 pv po => ?_
                walk_at "go"
                intro r hr
                exact q _ _ (.loop c (c + g) p) ((((((f1.trans (.new hl1)).trans f3).trans f4).trans f5).trans f6).trans (.new hr)) (d6.same (same_new hr)) (.loop upd_same (PlA_keep (keepT_new hr) _ _ pv)) (by unfold okP; exact ⟨c0, by omega, by omega, po⟩)
          · --
            walk_at "go"
            refine g_ite (fun h9 => ?_) (fun h9 => ?_)
            · walk_at "go"
              intro l1 hl1
              have d2 := d1.same (same_new (o := .lst [.int 3, .int 3, .int 3, .int 10]) hl1)
              walk_at "go"
              refine use_drawn (n := 4) d2 (by decide) (by decide) fun H3 a f3 d3 a0 a1 => ?_
              have e3 := f3 _ _ (d1.ne hl1) upd_same
              obtain ⟨x, hx, hx2⟩ := atI_mem (xs := [.int 3, .int 3, .int 3, .int 10]) a0 a1
              refine g_ixL (SqL.of e3) hx2 ?_
              obtain ⟨n, rfl, n0, n1⟩ : ∃ z, x = V.int z ∧ 0 < z ∧ z ≤ 10 := by
                simp only [List.mem_cons, List.not_mem_nil, or_false] at hx
                rcases hx with rfl | rfl | rfl | rfl <;> exact ⟨_, rfl, by decide, by decide⟩
              walk_at "go"
              refine use_drawn d3 n0 (by omega) fun H4 c f4 d4 c0 c1 => ?_
              have f14 := ((f1.trans (.new hl1)).trans f3).trans f4
              walk_at "go"
              refine w_lcRange (by omega) (by omega) (fun D i H' => ∃ (vs : List V) (ps : List Pl), Frm S H H' ∧ Dst K B H' S ∧ H' D = some (.lst vs) ∧ PlAs H' vs ps ∧ okPs d l ps ∧ ps.length = i) ?_ ?_ ?_
              · intro D hD
                exact ⟨[], [], f14.trans (.new hD), d4.same (same_new hD), upd_same, .nil, by unfold okPs; trivial, rfl⟩
              · rintro D i H5 hD hi ⟨vs, ps, f5, d5, e5, p5, o5, l5⟩
                have nD := d4.ne hD
                have hD0 := f14.back nD hD
                walk_at "go"
                refine ⟨rfl, ?_⟩
                walk_at "go"
                refine use_plan d5 rfl (by split <;> omega) (by omega) fun H6 v p f6 d6 pv po => ?_
                walk_at "go"
                have e6 := f6 _ _ nD e5
                refine ⟨vs, e6, small_lt (by rw [p5.len, l5]; omega), ?_⟩
                exact ⟨vs ++ [v], ps ++ [p], (f5.trans f6).mut hD0, d6.mut nD (d4.fresh hD), upd_same, (PlAs_keep ((keepT_frm d5 f6).trans (keepT_lst e6)) _ _ p5).snoc (PlA_keep (keepT_lst e6) _ _ pv), okPs_snoc o5 po, by rw [List.length_append, l5]; rfl⟩
              · rintro D H5 hD ⟨vs, ps, f5, d5, e5, p5, o5, l5⟩
                walk_at "go"
                refine g_tupOf (SqL.of e5) ?_
                intro t ht
                have d6 := d5.same (same_new (o := .tup vs) ht)
                walk_at "go"
                intro r hr
                exact q _ _ (.either ps) ((f5.trans (.new ht)).trans (.new hr)) (d6.same (same_new hr)) (.either upd_same (same_new hr _ _ upd_same) (PlAs_keep ((keepT_new ht).trans (keepT_new hr)) _ _ p5)) (by unfold okP; exact ⟨by omega, by omega, o5⟩)
            · walk_at "go"
              intro l1 hl1
              have d2 := d1.same (same_new (o := .lst [.int 2, .int 2, .int 2, .int 9]) hl1)
              walk_at "go"
              refine use_drawn (n := 4) d2 (by decide) (by decide) fun H3 a f3 d3 a0 a1 => ?_
              have e3 := f3 _ _ (d1.ne hl1) upd_same
              obtain ⟨x, hx, hx2⟩ := atI_mem (xs := [.int 2, .int 2, .int 2, .int 9]) a0 a1
              refine g_ixL (SqL.of e3) hx2 ?_
              obtain ⟨n, rfl, n0, n1⟩ : ∃ z, x = V.int z ∧ 0 < z ∧ z ≤ 9 := by
                simp only [List.mem_cons, List.not_mem_nil, or_false] at hx
                rcases hx with rfl | rfl | rfl | rfl <;> exact ⟨_, rfl, by decide, by decide⟩
              walk_at "go"
              refine use_drawn d3 n0 (by omega) fun H4 c f4 d4 c0 c1 => ?_
              walk_at "go"
              refine use_drawn (n := 2) d4 (by decide) (by decide) fun H5 g f5 d5 g0 g1 => ?_
              walk_at "go"
              have lpos : 0 < l := by omega
              obtain ⟨l, rfl⟩ : ∃ l', l = l' + 1 := ⟨l - 1, by omega⟩
              refine use_plan (l := l) d5 (by omega) (by omega) (by omega) fun H6 v p f6 d6 pv po => ?_
              walk_at "go"
              intro r hr
              exact q _ _ (.loop c (c + g) p) ((((((f1.trans (.new hl1)).trans f3).trans f4).trans f5).trans f6).trans (.new hr)) (d6.same (same_new hr)) (.loop upd_same (PlA_keep (keepT_new hr) _ _ pv)) (by unfold okP; exact ⟨c0, by omega, by omega, po⟩)
end
end K02
namespace K02
open PySem PySem.Spec PyProof.Rows L2 Wd
local macro_rules | `(tactic| walk_at "gs") => `(tactic| repeat (first
  | with_reducible refine Wd.g_seq ?_
  | ((with_reducible show L2.Ends.nx _ _ _); (with_reducible refine Wd.g_nx ?_))
  | with_reducible refine Wd.g_asg ?_
  | ((with_reducible refine' Wd.g_var ?h1 ?_); (case h1 => exact rfl))
  | with_reducible refine Wd.g_c ?_
  | with_reducible refine Wd.g_op ?_
  | with_reducible refine Wd.g_un ?_
  | with_reducible refine Wd.g_I0 ?_
  | with_reducible refine Wd.g_U ?_
  | with_reducible refine Wd.g_eqI ?_
  | with_reducible refine Wd.g_neI ?_
  | with_reducible refine Wd.g_eqS ?_
  | with_reducible refine Wd.g_neS ?_
  | with_reducible refine Wd.g_eqB ?_
  | with_reducible refine Wd.g_neB ?_
  | with_reducible refine Wd.g_isN ?_
  | with_reducible refine Wd.g_notN ?_
  | with_reducible refine Wd.g_lc ?_
  | with_reducible refine Wd.g_yes ?_
  | with_reducible refine Wd.g_test ?_
  | with_reducible refine Wd.g_tB ?_
  | with_reducible refine Wd.g_bl ?_
  | with_reducible refine Wd.g_blI ?_
  | with_reducible refine Wd.g_and ?_
  | with_reducible refine Wd.g_or ?_
  | with_reducible refine Wd.g_not ?_
  | with_reducible refine Wd.g_andV ?_
  | with_reducible refine Wd.g_orV ?_
  | with_reducible refine Wd.g_notV ?_
  | with_reducible refine Wd.g_if ?_
  | with_reducible refine Wd.g_chain ?_
  | with_reducible refine Wd.g_chain3 ?_
  | with_reducible refine Wd.g_nil ?_
  | with_reducible refine Wd.g_cons ?_
  | with_reducible refine Wd.g_tup ?_
  | with_reducible refine Wd.g_lst ?_
  | with_reducible refine Wd.g_CB ?_
  | with_reducible refine Wd.g_call ?_
  | with_reducible refine Wd.g_callS ?_
  | with_reducible refine Wd.g_bm ?_
  | with_reducible refine Wd.g_bm0 ?_
  | with_reducible refine Wd.g_sl ?_
  | with_reducible refine Wd.g_part ?_
  | with_reducible refine Wd.g_part1 ?_
  | with_reducible refine Wd.g_noPart ?_
  | with_reducible refine Wd.g_next ?_
  | with_reducible refine Wd.g_name ?_
  | with_reducible refine Wd.g_sub ?_
  | with_reducible refine Wd.g_gnil ?_
  | with_reducible refine Wd.g_gcons ?_
  | with_reducible refine Wd.g_drop ?_
  | with_reducible refine Wd.g_ret ?_
  | with_reducible refine Wd.g_retN ?_
  | with_reducible refine Wd.g_brk ?_
  | with_reducible refine Wd.g_cont ?_
  | ((with_reducible show L2.Ends.bk _ _ _); (with_reducible refine Wd.g_bk ?_))
  | ((with_reducible show L2.Ends.ct _ _ _); (with_reducible refine Wd.g_ct ?_))
  | ((with_reducible show L2.Ends.rt _ _ _); (with_reducible refine Wd.g_rt ?_))
  | with_reducible refine Wd.g_for ?_
  | with_reducible refine Wd.g_rng1 ?_
  | with_reducible refine Wd.g_rng2 ?_
  | with_reducible refine Wd.g_iList ?_
  | with_reducible refine Wd.g_iTup ?_
  | ((with_reducible refine Wd.g_fit ?h1 ?_); (case h1 => exact rfl))
  | with_reducible refine Wd.g_max2 ?_
  | with_reducible refine Wd.g_min2 ?_
  | with_reducible refine Wd.g_int1B ?_
  | with_reducible refine L2.iteT ?_
  | with_reducible refine L2.iteF ?_
  | ((with_reducible refine Wd.g_itT ?h1 ?_); (case h1 => exact rfl))
  | ((with_reducible refine Wd.g_itF ?h1 ?_); (case h1 => exact rfl))))
section
variable {P : Program} {w : World} {K : PySem.W.Frag} {mg : Str → Option Value} {base : Heap}
theorem ok_plan (T : Txt K mg) {f : Addr} {fd : FuncData} (D : C8.Def K mg "_law_plan" s_law_plan f fd) (b : Binds K fd ["_law_state", "_law_deep", "_law_loops"] []) (g_law_drawn : C8.Cal P w K mg base 1 "_law_drawn" (sp_drawn K) []) : ∀ n : Nat, C8.Cal P w K mg base (n + 1) "_law_plan" (sp_plan K n) []
  | 0 => ⟨f, fd, ["_law_state", "_law_deep", "_law_loops"], [], ⟨fun _ _ _ _ h => h.elim, fun _ _ _ _ _ _ _ _ _ _ _ _ _ h => h.elim⟩, D.mgf, D.kp, b, .nil⟩
  | n + 1 => plan_step T D b g_law_drawn (ok_plan T D b g_law_drawn n)

theorem cnts_sum : ∀ ps : List Pl, (ps.map fun p => (cnt p : Int)).sum = (cnts ps : Int)
  | [] => by unfold cnts; rfl
  | p :: ps => by
    have ih := cnts_sum ps
    rw [List.map_cons, List.sum_cons, ih]
    simp only [Wd.cnts]
    omega
end
end K02
namespace K02R
open PySem PySem.Spec PyProof.Rows L2 Wd K02
/-! ### the refusal BadDelays, which bears a place -/
structure TxtB (K : PySem.W.Frag) (mg : Str → Option Value) (CB CD fI : Addr) : Prop where
  T : OexC K CB
  iC : PySem.W.findIn K (.ref CB) "__init__" = some (some (.ref fI))
  tI : PySem.W.typeIn K (.ref fI) = some (.type "function")
  gB : mg "BadDelays" = some (.ref CB)
  gD : mg "DogError" = some (.ref CD)
  r : ClX.CRead K CD (.type "type")
  vV : PySem.W.findCls K (.ref CD) (.type "type") "__init__" = some (.val (.builtin "ValueError.__init__"))
  na : PySem.W.findIn K (.ref CB) "at" = some none
section
variable {P : Program} {w : World} {K : PySem.W.Frag} {mg : Str → Option Value} {base : Heap} {CB CD fI : Addr}
abbrev s_BadDelays_init : Stmt := (C8.clsBody (top 4)).getD 0 (.Pass ⟨0, 0, 0, 0⟩)
theorem sc_BadDelays_init : FnScope ["self", "at"] ["self", "at"] (C8.fnScope s_BadDelays_init) := C8.fnScope_by (by decide +kernel)
def sp_binit (CB : Addr) : Sp := fun vs H Q _ => ∃ (a : Addr) (n : Int), vs = [.ref a, .int n] ∧ (0 ≤ n ∧ n < 10 ^ 6) ∧ H a = some (exo a CB none) ∧ ∀ dx, H dx = none → dx ≠ a → Q .non (upd (upd H dx (exd dx [("at", .int n)])) a (exo a CB (some dx)))
theorem ok_binit (B : TxtB K mg CB CD fI) {fd : FuncData} (F : C8.Fun K "__init__" "BadDelays.__init__" s_BadDelays_init fI fd) : FnOk P w K mg base C8.CX0 1 fI fd ["self", "at"] (sp_binit CB) := by
  refine C8.fn0 F sc_BadDelays_init (fun vs H Q E h => ?_) fun cdv A outer s H vs Q E hr h => ?_
  · obtain ⟨a, n, rfl, _⟩ := h; rfl
  · obtain ⟨a, n, rfl, hn, ha, q⟩ := h
    have nd := sc_BadDelays_init.nd
    refine ⟨_, (pss_cons (ps_expr (pe_cinit (by rfl) B.gD B.r B.vV (pa_cons (pv 0) (pa_cons (pe_joined (.cons pe_str (.cons (pe_fmt (pv 1)) .nil))) pa_nil))))
      (pss_one (ps_ost (pv 0) (pv 1)))), ?_⟩
    have ln : (Str.ofString (toString n)).length ≤ 6 := PyProof.Rows.toString_length_le hn.1 (by decide) hn.2
    have lg : n.natAbs.log2 < 1920 := by
      have : n.natAbs < 2 ^ 1920 := Nat.lt_of_lt_of_le (show n.natAbs < 10 ^ 6 by omega) (by decide)
      by_cases z : n.natAbs = 0
      · rw [z]; decide
      · exact (Nat.log2_lt z).mpr this
    walk_at "go"
    refine ⟨_, rfl, _, rfl, (by decide), _, rfl, .inr ⟨n, rfl, lg, _, rfl, ?_, ?_⟩⟩
    · rw [PyProof.Rows.len_cat]
      exact Nat.le_trans (Nat.add_le_add_left ln _) (by decide)
    refine ⟨a, CB, _, rfl, (by show 1 ≤ 1000; decide), B.T, ha, ?_⟩
    walk_at "go"
    exact ⟨_, rfl, _, rfl, a, CB, rfl, B.T, B.na, .inl ⟨ha, fun dx h1 h2 => q dx h1 h2⟩⟩
theorem use_bad {H : Hp} {n : Int} {Q : XK} (h : 0 ≤ n ∧ n < 10 ^ 6) (q : ∀ H' dx, Same H H' → H dx = none → H' dx = some (.xd [("at", .int n)]) → Q (.ref CB) (some dx) H') :
    ([.int n] : List V).length ≤ 1000 ∧ ∀ a, H a = none → sp_binit CB (.ref a :: ([.int n] ++ [])) (upd H a (exo a CB none))
      (fun v H2 => v = .non ∧ ∃ (d : Addr) (fs : List (Str × V)), H2 a = some (exo a CB (some d)) ∧ H2 d = some (exd d fs) ∧ H d = none ∧ Q (.ref CB) (some d) (upd (del H2 a) d (.xd fs))) (fun _ _ _ => False) :=
  ⟨by show 1 ≤ 1000; decide, fun a ha => ⟨a, n, rfl, h, upd_same, fun dx hdx ndx => by
    have h0 : H dx = none := by rw [upd_ne ndx] at hdx; exact hdx
    refine ⟨rfl, dx, [("at", .int n)], upd_same, by rw [upd_ne ndx]; exact upd_same, h0, q _ dx (fun b o e => ?_) h0 upd_same⟩
    have n1 : b ≠ dx := fun z => by rw [z, h0] at e; cases e
    have n2 : b ≠ a := fun z => by rw [z, ha] at e; cases e
    rw [upd_ne n1, del_ne n2, upd_ne n2, upd_ne n1, upd_ne n2]
    exact e⟩⟩
end
end K02R
namespace K02R
open PySem PySem.Spec PyProof.Rows L2 Wd K02
/-! ### the first place that can't be -/
def got (ds : List Int) (u : Nat) (lo hi : Int) : Option Int := match ds[u]? with
  | some d => if lo ≤ d ∧ d ≤ hi then some d else none
  | none => none
def seqB (r : Bool × Nat) (k : Nat → Bool × Nat) : Bool × Nat := if r.1 = true then r else k r.2
def iterB (f : Nat → Bool × Nat) : Nat → Nat → Bool × Nat
  | 0, u => (false, u)
  | n + 1, u => seqB (f u) (iterB f n)
mutual
def fs (ds : List Int) : Pl → Nat → Bool × Nat
  | .pat, u => (false, u)
  | .work a b, u => match got ds u a b with
    | some _ => (false, u + 1)
    | none => (true, u)
  | .row ps, u => fss ds ps u
  | .either ps, u => match got ds u 0 ((ps.length : Int) - 1) with
    | some d => fsAt ds ps d.toNat (u + 1)
    | none => (true, u)
  | .loop a b p, u => match got ds u a b with
    | some d => iterB (fs ds p) d.toNat (u + 1)
    | none => (true, u)
def fss (ds : List Int) : List Pl → Nat → Bool × Nat
  | [], u => (false, u)
  | p :: ps, u => seqB (fs ds p u) (fss ds ps)
def fsAt (ds : List Int) : List Pl → Nat → Nat → Bool × Nat
  | [], _, u => (true, u)
  | p :: _, 0, u => fs ds p u
  | _ :: ps, n + 1, u => fsAt ds ps n u
end
theorem fsAt_at (ds : List Int) : ∀ {ps : List Pl} {n : Nat} {p : Pl}, ps[n]? = some p → ∀ u, fsAt ds ps n u = fs ds p u
  | _ :: _, 0, _, e, u => by cases e; simp only [fsAt]
  | _ :: ps, n + 1, _, e, u => by simp only [fsAt]; exact fsAt_at ds (ps := ps) e u
theorem seqB_no {r : Bool × Nat} {u : Nat} {k : Nat → Bool × Nat} (h : r = (false, u)) : seqB r k = k u := by subst h; rfl
theorem seqB_yes {r : Bool × Nat} {u : Nat} {k : Nat → Bool × Nat} (h : r = (true, u)) : seqB r k = (true, u) := by subst h; rfl
theorem got_some {ds : List Int} {u : Nat} {lo hi d : Int} (h : got ds u lo hi = some d) : ds[u]? = some d ∧ lo ≤ d ∧ d ≤ hi ∧ u < ds.length := by
  unfold got at h
  split at h
  · rename_i d' e
    split at h
    · rename_i b
      cases h
      exact ⟨e, b.1, b.2, (List.getElem?_eq_some_iff.mp e).1⟩
    · cases h
  · cases h
theorem drop_at {α : Type} : ∀ {l : List α} {i : Nat} {x : α}, l[i]? = some x → l.drop i = x :: l.drop (i + 1)
  | _ :: _, 0, _, e => by cases e; rfl
  | _ :: l, i + 1, _, e => drop_at (l := l) (i := i) e
mutual
/-- how many pats at the most -/
def mp : Pl → Nat
  | .pat => 1
  | .work _ _ => 0
  | .row ps => mps ps
  | .either ps => mps ps
  | .loop _ _ p => 9 * mp p
def mps : List Pl → Nat
  | [] => 0
  | p :: ps => mp p + mps ps
end
theorem mps_at {ps : List Pl} {i : Nat} {p : Pl} (h : ps[i]? = some p) : mp p ≤ mps ps := by
  induction ps generalizing i with
  | nil => cases h
  | cons q ps ih =>
    match i, h with
    | 0, h => cases h; simp only [mps]; omega
    | i + 1, h => have := ih (i := i) h; simp only [mps]; omega

/-! ### a run -/
structure TxtR (K : PySem.W.Frag) (CR : Addr) : Prop where
  c : Cls K CR
  nD : NoAttr K CR "delays"
  nU : NoAttr K CR "used"
  nN : NoAttr K CR "now"
  nP : NoAttr K CR "pats"
section
variable {P : Program} {w : World} {K : PySem.W.Frag} {mg : Str → Option Value} {base : Heap} {CR CB CD fI : Addr}
abbrev runF (LA PA : Addr) (u t : Int) : List (Str × V) := [("delays", .ref LA), ("used", .int u), ("now", .int t), ("pats", .ref PA)]
theorem lk_d {LA PA : Addr} {u t : Int} : (runF LA PA u t).lookup ("delays" : Str) = some (.ref LA) := rfl
theorem lk_u {LA PA : Addr} {u t : Int} : (runF LA PA u t).lookup ("used" : Str) = some (.int u) := rfl
theorem lk_n {LA PA : Addr} {u t : Int} : (runF LA PA u t).lookup ("now" : Str) = some (.int t) := rfl
theorem lk_p {LA PA : Addr} {u t : Int} : (runF LA PA u t).lookup ("pats" : Str) = some (.ref PA) := rfl
theorem lk_take {LA PA : Addr} {u t : Int} : (runF LA PA u t).lookup ("take" : Str) = none := rfl
theorem lk_follow {LA PA : Addr} {u t : Int} : (runF LA PA u t).lookup ("follow" : Str) = none := rfl
abbrev s_Run_init : Stmt := (C8.clsBody (top 24)).getD 0 (.Pass ⟨0, 0, 0, 0⟩)
abbrev s_Run_take : Stmt := (C8.clsBody (top 24)).getD 1 (.Pass ⟨0, 0, 0, 0⟩)
abbrev s_Run_follow : Stmt := (C8.clsBody (top 24)).getD 2 (.Pass ⟨0, 0, 0, 0⟩)
theorem sc_Run_take : FnScope ["self", "least", "most", "at", "delay"] ["self", "least", "most"] (C8.fnScope s_Run_take) := C8.fnScope_by (by decide +kernel)
def sp_take (K : PySem.W.Frag) (CR CB : Addr) : Sp := fun vs H Q E => ∃ (R dx LA PA : Addr) (u : Nat) (t lo hi : Int) (ds : List Int), vs = [.ref R, .int lo, .int hi] ∧ H R = some (.ins CR dx (runF LA PA u t)) ∧ SqL K H LA (ds.map V.int) ∧ u ≤ ds.length ∧ ds.length < 10 ^ 6 ∧
  (∀ d, got ds u lo hi = some d → Q (.int d) (upd H R (.ins CR dx (runF LA PA (u + 1 : Nat) t)))) ∧ (got ds u lo hi = none → ∀ H' x, Same H H' → H' x = some (.xd [("at", .int u)]) → E (.ref CB) (some x) H')
theorem ok_take (T : TxtP K mg) (TR : TxtR K CR) (B : TxtB K mg CB CD fI) {fdI : FuncData} (B_init : FnOk P w K mg base C8.CX0 1 fI fdI ["self", "at"] (sp_binit CB)) (B_binds : Binds K fdI ["self", "at"] []) {f : Addr} {fd : FuncData} (me : Meth K CR "take" f) (F : C8.Fun K "take" "Run.take" s_Run_take f fd) (b : Binds K fd ["self", "least", "most"] [])
    (g_is_number : C8.Cal P w K mg base 1 "is_number" sp_is_number []) : MetX P w K mg base 3 CR "take" (sp_take K CR CB) := by
  refine metX TR.c me F b sc_Run_take (fun vs H Q E h => ?_) fun cdv A outer s H vs Q E hr h => ?_
  · obtain ⟨R, dx, LA, PA, u, t, lo, hi, ds, rfl, _⟩ := h; rfl
  · obtain ⟨R, dx, LA, PA, u, t, lo, hi, ds, rfl, hR, hL, hu, hz, q1, q2⟩ := h
    have nd := sc_Run_take.nd
    refine ⟨_, (pss_cons (ps_set (i := 3) nd rfl (Or.inl rfl) (pe_fld (pv 0) rfl))
      (pss_cons (ps_if (pt_cmpR op_eq (pv 3) (pe_callB (r := Wd.rLen K) call_len1 (by rfl) T.n_len PySem.boot_len (pa_cons (pe_fld (pv 0) rfl) pa_nil)) (nomark _)) (pss_one (ps_raise rfl (takes_of rfl rfl rfl rfl) (pmk_oex B.T B.iC B.tI B_init (hr.mono (by decide)) B_binds .nil pass0 (by rfl) B.gB (pa_cons (pv 3) pa_nil)))) pss_nil)
      (pss_cons (ps_set (i := 4) nd rfl (Or.inl rfl) (pe_ix (r := rIxL K) ix_list (pe_fld (pv 0) rfl) (pv 3) (fun _ _ => rfl)))
      (pss_cons (ps_if (PW.pt (pw_or (pt_not (pt_val (C8.pe_c g_is_number hr (by first | decide | exact Nat.le_refl _ | omega) (by rfl) (pa_cons (pv 4) pa_nil)))) (pw_or1 (pt_not (pt_chain op_le op_le (pv 1) (pv 4) (pv 2)))))) (pss_one (ps_raise rfl (takes_of rfl rfl rfl rfl) (pmk_oex B.T B.iC B.tI B_init (hr.mono (by decide)) B_binds .nil pass0 (by rfl) B.gB (pa_cons (pv 3) pa_nil)))) pss_nil)
      (pss_cons (ps_fldaug (pv 0) pe_int in_add)
      (pss_one (ps_ret (pv 4)))))))), ?_⟩
    walk_at "go"
    refine ⟨_, rfl, R, CR, dx, _, _, rfl, hR, TR.c, TR.nU, lk_u, ?_⟩
    walk_at "go"
    refine ⟨_, rfl, R, CR, dx, _, _, rfl, hR, TR.c, TR.nD, lk_d, ?_⟩
    walk_at "go"
    refine g_len (.inl hL) ?_
    walk_at "go"
    rw [List.length_map]
    refine g_ite (fun h => ?_) (fun h => ?_)
    · have eu : u = ds.length := by omega
      have gn : got ds u lo hi = none := by
        unfold got
        rw [List.getElem?_eq_none (by omega)]
      walk_at "go"
      exact ⟨_, rfl, use_bad ⟨by omega, by omega⟩ fun H9 x s9 _ hx => q2 gn H9 x s9 hx⟩
    · have hul : u < ds.length := by omega
      walk_at "go"
      refine ⟨_, rfl, R, CR, dx, _, _, rfl, hR, TR.c, TR.nD, lk_d, ?_⟩
      walk_at "go"
      have hd : ds[u]? = some ds[u] := List.getElem?_eq_getElem hul
      generalize ds[u] = d at hd
      refine g_ixL hL (at_of (j := u) (v := .int d) rfl (by rw [List.getElem?_map, hd]; rfl)) ?_
      walk_at "go"
      refine ⟨d, rfl, ?_⟩
      walk_at "go"
      refine g_ite (fun h1 => ?_) (fun h1 => ?_)
      · walk_at "go"
        refine g_iteN (fun h2 => ?_) (fun h2 => ?_)
        · have gn : got ds u lo hi = none := by unfold got; rw [hd]; exact if_neg (fun z => h2 z.2)
          walk_at "go"
          exact ⟨_, rfl, use_bad ⟨by omega, by omega⟩ fun H9 x s9 _ hx => q2 gn H9 x s9 hx⟩
        · walk_at "go"
          refine ⟨_, rfl, R, CR, dx, _, _, rfl, hR, TR.c, TR.nU, lk_u, ?_⟩
          walk_at "go"
          refine ⟨_, _, rfl, rfl, ?_⟩
          refine ⟨_, _, hR, by show 4 < 1000; decide, ?_⟩
          walk_at "go"
          exact q1 d (by unfold got; rw [hd]; exact if_pos ⟨h1, h2⟩)
      · have gn : got ds u lo hi = none := by unfold got; rw [hd]; exact if_neg (fun z => h1 z.1)
        walk_at "go"
        exact ⟨_, rfl, use_bad ⟨by omega, by omega⟩ fun H9 x s9 _ hx => q2 gn H9 x s9 hx⟩
end
end K02R
namespace K02R
open PySem PySem.Spec PyProof.Rows L2 Wd K02
section
variable {P : Program} {w : World} {K : PySem.W.Frag} {mg : Str → Option Value} {base : Heap} {CR CB CD fI : Addr}
theorem Frm2.setS {S F : Addr} {H : Hp} {o : HO} : Frm2 S F H (upd H S o) := fun b u n _ h => by rw [upd_ne n]; exact h
theorem keep2 {H H' : Hp} {R PA dx : Addr} {fs : List (Str × V)} {xs : List V} (hR : H R = some (.ins CR dx fs)) (hP : H PA = some (.lst xs)) (f : Frm2 R PA H H') : KeepT H H' := fun b ys h => f b _ (ne_of h hR (fun z => nomatch z)) (ne_of h hP (fun z => nomatch z)) h
theorem frm2_same {S F : Addr} {H H' : Hp} (e : Same H H') : Frm2 S F H H' := fun b o _ _ h => e b o h
theorem sc_Run_follow : FnScope ["self", "plan", "word", "part", "which", "times", "turn"] ["self", "plan"] (C8.fnScope s_Run_follow) := C8.fnScope_by (by decide +kernel)
def sp_follow (K : PySem.W.Frag) (CR CB : Addr) : Nat → Sp
  | 0 => fun _ _ _ _ => False
  | d + 1 => fun vs H Q E => ∃ (R dx LA PA : Addr) (u : Nat) (t : Int) (v : V) (p : Pl) (l : Nat) (ds ps : List Int), vs = [.ref R, v] ∧ PlA H v p ∧ okP d l p ∧ H R = some (.ins CR dx (runF LA PA u t)) ∧ H LA = some (.lst (ds.map V.int)) ∧ LA ≠ PA ∧ H PA = some (.lst (ps.map V.int)) ∧
    u ≤ ds.length ∧ ds.length < 10 ^ 6 ∧ ps.length + mp p ≤ 50000 ∧
    (∀ u', fs ds p u = (false, u') → ∀ H' (t' : Int) (ps' : List Int), Frm2 R PA H H' → u' ≤ ds.length → H' R = some (.ins CR dx (runF LA PA u' t')) → H' PA = some (.lst (ps'.map V.int)) → ps'.length ≤ ps.length + mp p → Q .non H') ∧
    (∀ u', fs ds p u = (true, u') → ∀ H' x, Frm2 R PA H H' → H' x = some (.xd [("at", .int u')]) → E (.ref CB) (some x) H')
theorem follow_step (T : TxtP K mg) (TR : TxtR K CR) {d : Nat} {f : Addr} {fd : FuncData} (me : Meth K CR "follow" f) (F : C8.Fun K "follow" "Run.follow" s_Run_follow f fd) (b : Binds K fd ["self", "plan"] []) (m_take : MetX P w K mg base 3 CR "take" (sp_take K CR CB))
    (m_follow : MetX P w K mg base (d + 3) CR "follow" (sp_follow K CR CB d)) : MetX P w K mg base (d + 4) CR "follow" (sp_follow K CR CB (d + 1)) := by
  refine metX TR.c me F b sc_Run_follow (fun vs H Q E h => ?_) fun cdv A outer s H vs Q E hr h => ?_
  · obtain ⟨R, dx, LA, PA, u, t, v, p, l, ds, ps, rfl, _⟩ := h; rfl
  · obtain ⟨R, dx, LA, PA, u, t, v, p, l, ds, ps, rfl, hp, ok, hR, hL, ne, hP, hu, hz, sz, q1, q2⟩ := h
    have nd := sc_Run_follow.nd
    have nRP : R ≠ PA := ne_of hR hP (fun z => nomatch z)
    have nLR : LA ≠ R := ne_of hL hR (fun z => nomatch z)
    have hr : Room (d + 3) _ := hr
    refine ⟨_, (pss_cons (ps_set (i := 2) nd rfl (Or.inl rfl) (pe_ix (r := rIxT K) ix_tup (pv 1) pe_int (fun _ _ => rfl)))
      (pss_one (ps_if (pt_cmpR op_eq (pv 2) pe_str (nomark _)) (pss_one (ps_expr (pe_bmK (K := K) rfl PySem.F.plainAttrs_list PySem.F.slot_list_append PySem.F.type_list_append mt_append (pe_fld (pv 0) rfl) (pa_cons (pe_fld (pv 0) rfl) pa_nil)))) (pss_one (ps_if (pt_cmpR op_eq (pv 2) pe_str (nomark _)) (pss_one (ps_fldaug (pv 0) (pe_mX m_take hr (by first | decide | exact Nat.le_refl _ | omega) (fun σ => passAt (takes_of rfl rfl rfl rfl) σ) (pv 0) (pa_cons (pe_ix (r := rIxT K) ix_tup (pv 1) pe_int (fun _ _ => rfl)) (pa_cons (pe_ix (r := rIxT K) ix_tup (pv 1) pe_int (fun _ _ => rfl)) pa_nil))) in_add)) (pss_one (ps_if (pt_cmpR op_eq (pv 2) pe_str (nomark _)) (pss_one (ps_for (passes_of rfl) rfl (pi_tup (pe_ix (r := rIxT K) ix_tup (pv 1) pe_int (fun _ _ => rfl))) (pg_name (i := 3) nd rfl (Or.inl rfl)) (pss_one (ps_expr (pe_mX m_follow hr (by first | decide | exact Nat.le_refl _ | omega) (fun σ => passAt (takes_of rfl rfl rfl rfl) σ) (pv 0) (pa_cons (pv 3) pa_nil)))))) (pss_one (ps_if (pt_cmpR op_eq (pv 2) pe_str (nomark _)) (pss_cons (ps_set (i := 4) nd rfl (Or.inl rfl) (pe_mX m_take hr (by first | decide | exact Nat.le_refl _ | omega) (fun σ => passAt (takes_of rfl rfl rfl rfl) σ) (pv 0) (pa_cons pe_int (pa_cons (pe_op op_sub (pe_callB (r := Wd.rLen K) call_len1 (by rfl) T.n_len PySem.boot_len (pa_cons (pe_ix (r := rIxT K) ix_tup (pv 1) pe_int (fun _ _ => rfl)) pa_nil)) pe_int) pa_nil))))
      (pss_one (ps_expr (pe_mX m_follow hr (by first | decide | exact Nat.le_refl _ | omega) (fun σ => passAt (takes_of rfl rfl rfl rfl) σ) (pv 0) (pa_cons (pe_ix (r := rIxT K) ix_tup (pe_ix (r := rIxT K) ix_tup (pv 1) pe_int (fun _ _ => rfl)) (pv 4) (fun _ _ => rfl)) pa_nil))))) (pss_cons (ps_set (i := 5) nd rfl (Or.inl rfl) (pe_mX m_take hr (by first | decide | exact Nat.le_refl _ | omega) (fun σ => passAt (takes_of rfl rfl rfl rfl) σ) (pv 0) (pa_cons (pe_ix (r := rIxT K) ix_tup (pv 1) pe_int (fun _ _ => rfl)) (pa_cons (pe_ix (r := rIxT K) ix_tup (pv 1) pe_int (fun _ _ => rfl)) pa_nil))))
      (pss_one (ps_for (passes_of rfl) rfl (pi_range1 rfl T.n_range (pa_cons (pv 5) pa_nil)) (pg_name (i := 6) nd rfl (Or.inl rfl)) (pss_one (ps_expr (pe_mX m_follow hr (by first | decide | exact Nat.le_refl _ | omega) (fun σ => passAt (takes_of rfl rfl rfl rfl) σ) (pv 0) (pa_cons (pe_ix (r := rIxT K) ix_tup (pv 1) pe_int (fun _ _ => rfl)) pa_nil)))))))))))))))), ?_⟩
    cases hp with
    | pat ha =>
      simp only [mp] at sz q1
      walk_at "go"
      refine g_ixT (SqT.of ha) rfl ?_
      walk_at "go"
      refine ⟨_, rfl, R, CR, dx, _, _, rfl, hR, TR.c, TR.nP, lk_p, ?_⟩
      refine g_tyL hP ?_
      walk_at "go"
      refine ⟨_, rfl, R, CR, dx, _, _, rfl, hR, TR.c, TR.nN, lk_n, ?_⟩
      walk_at "go"
      refine g_append hP (by rw [List.length_map]; omega) ?_
      walk_at "go"
      exact q1 u (by simp only [fs]) _ t (ps ++ [t]) .set hu (by rw [upd_ne nRP]; exact hR) (by rw [upd_same, List.map_append]; rfl) (by rw [List.length_append]; exact Nat.le_refl _)
    | @work a x y ha =>
      simp only [mp] at sz q1
      walk_at "go"
      refine g_ixT (SqT.of ha) rfl ?_
      walk_at "go"
      refine ⟨_, rfl, R, CR, dx, _, _, rfl, hR, TR.c, TR.nN, lk_n, ?_⟩
      refine ⟨_, rfl, R, dx, _, rfl, hR, lk_take, ?_⟩
      walk_at "go"
      refine g_ixT (SqT.of ha) rfl ?_
      walk_at "go"
      refine g_ixT (SqT.of ha) rfl ?_
      walk_at "go"
      refine ⟨R, dx, LA, PA, u, t, x, y, ds, rfl, hR, SqL.of hL, hu, hz, fun d0 hd => ?_, fun hd H' x' s' hx => q2 u (by simp only [fs, hd]) H' x' (frm2_same s') hx⟩
      have hu1 := (got_some hd).2.2.2
      refine ⟨_, _, rfl, rfl, dx, _, upd_same, by show 4 < 1000; decide, ?_⟩
      walk_at "go"
      exact q1 (u + 1) (by simp only [fs, hd]) _ _ ps (Frm2.setS.trans .setS) hu1 upd_same (by rw [upd_ne nRP.symm, upd_ne nRP.symm]; exact hP) (Nat.le_add_right _ _)
    | @row a c vs ps' ha hc hps =>
      match d, ok, m_follow with
      | 0, ok, _ => unfold okP at ok; exact ok.elim
      | d + 1, ok, m_follow =>
      unfold okP at ok
      have ln := hps.len
      simp only [mp] at sz q1
      simp only [fs] at q1 q2
      walk_at "go"
      refine g_ixT (SqT.of ha) rfl ?_
      walk_at "go"
      refine g_ixT (SqT.of ha) rfl ?_
      walk_at "go"
      refine w_tup (xs := vs) (fun i σ H' => ∃ (v3 v4 v5 v6 : Option V) (u1 : Nat) (t1 : Int) (ps1 : List Int), σ = [some (.ref R), some (.ref a), some (.str "row"), v3, v4, v5, v6] ∧ Frm2 R PA H H' ∧ u1 ≤ ds.length ∧ H' R = some (.ins CR dx (runF LA PA u1 t1)) ∧ H' PA = some (.lst (ps1.map V.int)) ∧
        ps1.length + mps (ps'.drop i) ≤ ps.length + mps ps' ∧ fss ds (ps'.drop i) u1 = fss ds ps' u) ?_ ?_ ?_ ?_
      · exact ⟨_, _, _, _, u, t, ps, rfl, .refl _ _ _, hu, hR, hP, by rw [List.drop_zero]; exact Nat.le_refl _, by rw [List.drop_zero]⟩
      · rintro i σ H' _ ⟨v3, v4, v5, v6, u1, t1, ps1, _, f, _⟩
        exact SqT.of (keep2 hR hP f _ _ hc)
      · rintro i v σ H' hv ⟨v3, v4, v5, v6, u1, t1, ps1, rfl, f, hu1, hR1, hP1, le1, e1⟩
        obtain ⟨q0, hq, pv⟩ := hps.at hv
        rw [drop_at hq] at le1 e1
        rw [fss] at e1
        rw [mps] at le1
        walk_at "go"
        refine ⟨_, rfl, R, dx, _, rfl, hR1, lk_follow, ?_⟩
        walk_at "go"
        refine ⟨R, dx, LA, PA, u1, t1, v, q0, _, ds, ps1, rfl, PlA_keep (keep2 hR hP f) _ _ pv, okPs_at ok.2.2 hq, hR1, f _ _ nLR ne hL, ne, hP1, hu1, hz, by omega, fun u2 e2 H2 t2 ps2 f2 hu2 hR2 hP2 le2 => ?_, fun u2 e2 H2 x f2 hx => q2 u2 (by rw [← e1, seqB_yes e2]) H2 x (f.trans f2) hx⟩
        walk_at "go"
        exact ⟨_, _, _, _, u2, t2, ps2, rfl, f.trans f2, hu2, hR2, hP2, by omega, by rw [← e1, seqB_no e2]⟩
      · rintro σ H' ⟨v3, v4, v5, v6, u1, t1, ps1, rfl, f, hu1, hR1, hP1, le1, e1⟩
        rw [ln, List.drop_length] at le1 e1
        rw [fss] at e1
        walk_at "go"
        exact q1 u1 e1.symm H' t1 ps1 f hu1 hR1 hP1 (by simp only [mps] at le1; omega)
    | @either a c vs ps' ha hc hps =>
      match d, ok, m_follow with
      | 0, ok, _ => unfold okP at ok; exact ok.elim
      | d + 1, ok, m_follow =>
      unfold okP at ok
      have ln := hps.len
      simp only [mp] at sz q1
      walk_at "go"
      refine g_ixT (SqT.of ha) rfl ?_
      walk_at "go"
      refine ⟨_, rfl, R, dx, _, rfl, hR, lk_take, ?_⟩
      walk_at "go"
      refine g_ixT (SqT.of ha) rfl ?_
      walk_at "go"
      refine g_len (.inr (SqT.of hc)) ?_
      walk_at "go"
      rw [ln]
      refine ⟨R, dx, LA, PA, u, t, 0, _, ds, rfl, hR, SqL.of hL, hu, hz, fun d0 hd => ?_, fun hd H' x' s' hx => q2 u (by simp only [fs, hd]) H' x' (frm2_same s') hx⟩
      obtain ⟨hd0, d00, d01, hu1⟩ := got_some hd
      have hi : d0.toNat < vs.length := by omega
      have hv0 : vs[d0.toNat]? = some vs[d0.toNat] := List.getElem?_eq_getElem hi
      obtain ⟨p, hpp, pv⟩ := hps.at hv0
      have mle := mps_at hpp
      have efs : fs ds (.either ps') u = fs ds p (u + 1) := by simp only [fs, hd]; exact fsAt_at ds hpp _
      rw [efs] at q1 q2
      have f1 : Frm2 R PA H (upd H R (.ins CR dx (runF LA PA (u + 1 : Nat) t))) := .setS
      have k1 := keep2 hR hP f1
      walk_at "go"
      refine ⟨_, rfl, R, dx, _, rfl, upd_same, lk_follow, ?_⟩
      walk_at "go"
      refine g_ixT (SqT.of (k1 _ _ ha)) rfl ?_
      walk_at "go"
      refine g_ixT (v := vs[d0.toNat]) (SqT.of (k1 _ _ hc)) (at_of (j := d0.toNat) (by omega) hv0) ?_
      walk_at "go"
      refine ⟨R, dx, LA, PA, u + 1, t, _, p, _, ds, ps, rfl, PlA_keep k1 _ _ pv, okPs_at ok.2.2 hpp, upd_same, f1 _ _ nLR ne hL, ne, by rw [upd_ne nRP.symm]; exact hP, hu1, hz, by omega, fun u2 e2 H2 t2 ps2 f2 hu2 hR2 hP2 le2 => ?_, fun u2 e2 H2 x f2 hx => q2 u2 e2 H2 x (f1.trans f2) hx⟩
      walk_at "go"
      exact q1 u2 e2 H2 t2 ps2 (f1.trans f2) hu2 hR2 hP2 (by omega)
    | @loop a x y w0 p ha hw =>
      match d, ok, m_follow with
      | 0, ok, _ => unfold okP at ok; exact ok.elim
      | d + 1, ok, m_follow =>
      match l, ok with
      | 0, ok => unfold okP at ok; exact ok.elim
      | l + 1, ok =>
      unfold okP at ok
      simp only [mp] at sz q1
      walk_at "go"
      refine g_ixT (SqT.of ha) rfl ?_
      walk_at "go"
      refine ⟨_, rfl, R, dx, _, rfl, hR, lk_take, ?_⟩
      walk_at "go"
      refine g_ixT (SqT.of ha) rfl ?_
      walk_at "go"
      refine g_ixT (SqT.of ha) rfl ?_
      walk_at "go"
      refine ⟨R, dx, LA, PA, u, t, x, y, ds, rfl, hR, SqL.of hL, hu, hz, fun d0 hd => ?_, fun hd H' x' s' hx => q2 u (by simp only [fs, hd]) H' x' (frm2_same s') hx⟩
      obtain ⟨hd0, d00, d01, hu1⟩ := got_some hd
      have efs : fs ds (.loop x y p) u = iterB (fs ds p) d0.toNat (u + 1) := by simp only [fs, hd]
      rw [efs] at q1 q2
      have h9 : d0.toNat ≤ 9 := by omega
      have f1 : Frm2 R PA H (upd H R (.ins CR dx (runF LA PA (u + 1 : Nat) t))) := .setS
      walk_at "go"
      refine w_range (by omega) (by omega) (fun i σ H' => ∃ (v3 v4 v6 : Option V) (u1 : Nat) (t1 : Int) (ps1 : List Int), σ = [some (.ref R), some (.ref a), some (.str "loop"), v3, v4, some (.int d0), v6] ∧ Frm2 R PA H H' ∧ u1 ≤ ds.length ∧ H' R = some (.ins CR dx (runF LA PA u1 t1)) ∧ H' PA = some (.lst (ps1.map V.int)) ∧
        ps1.length ≤ ps.length + i * mp p ∧ iterB (fs ds p) (d0.toNat - i) u1 = iterB (fs ds p) d0.toNat (u + 1)) ?_ ?_ ?_
      · exact ⟨_, _, _, u + 1, t, ps, rfl, f1, hu1, upd_same, by rw [upd_ne nRP.symm]; exact hP, Nat.le_add_right _ _, by rw [Nat.sub_zero]⟩
      · rintro i σ H' hi ⟨v3, v4, v6, u1, t1, ps1, rfl, f, hu2, hR1, hP1, le1, e1⟩
        have es : d0.toNat - i = (d0.toNat - (i + 1)) + 1 := by omega
        rw [es, iterB] at e1
        have i8 : i * mp p ≤ 8 * mp p := Nat.mul_le_mul_right _ (by omega)
        walk_at "go"
        refine ⟨_, rfl, R, dx, _, rfl, hR1, lk_follow, ?_⟩
        walk_at "go"
        refine g_ixT (SqT.of (keep2 hR hP f _ _ ha)) rfl ?_
        walk_at "go"
        refine ⟨R, dx, LA, PA, u1, t1, _, p, _, ds, ps1, rfl, PlA_keep (keep2 hR hP f) _ _ hw, ok.2.2.2, hR1, f _ _ nLR ne hL, ne, hP1, hu2, hz, by omega, fun u2 e2 H2 t2 ps2 f2 hu3 hR2 hP2 le2 => ?_, fun u2 e2 H2 x f2 hx => q2 u2 (by rw [← e1, seqB_yes e2]) H2 x (f.trans f2) hx⟩
        walk_at "go"
        exact ⟨_, _, _, u2, t2, ps2, rfl, f.trans f2, hu3, hR2, hP2, by rw [Nat.add_mul]; omega, by rw [← e1, seqB_no e2]⟩
      · rintro σ H' ⟨v3, v4, v6, u1, t1, ps1, rfl, f, hu2, hR1, hP1, le1, e1⟩
        rw [Nat.sub_self, iterB] at e1
        have i9 : d0.toNat * mp p ≤ 9 * mp p := Nat.mul_le_mul_right _ h9
        walk_at "go"
        exact q1 u1 e1.symm H' t1 ps1 f hu2 hR1 hP1 (by omega)
theorem ok_follow (T : TxtP K mg) (TR : TxtR K CR) {f : Addr} {fd : FuncData} (me : Meth K CR "follow" f) (F : C8.Fun K "follow" "Run.follow" s_Run_follow f fd) (b : Binds K fd ["self", "plan"] []) (m_take : MetX P w K mg base 3 CR "take" (sp_take K CR CB)) : ∀ n : Nat, MetX P w K mg base (n + 3) CR "follow" (sp_follow K CR CB n)
  | 0 => ⟨f, fd, ["self", "plan"], TR.c, me, ⟨fun _ _ _ _ h => h.elim, fun _ _ _ _ _ _ _ _ _ _ _ _ _ h => h.elim⟩, b⟩
  | n + 1 => follow_step T TR me F b m_take (ok_follow T TR me F b m_take n)
end
end K02R
namespace K02R
open PySem PySem.Spec PyProof.Rows L2 Wd K02
section
variable {P : Program} {w : World} {K : PySem.W.Frag} {mg : Str → Option Value} {base : Heap} {CR CB CD fI : Addr}
theorem sc_Run_init : FnScope ["self", "delays"] ["self", "delays"] (C8.fnScope s_Run_init) := C8.fnScope_by (by decide +kernel)
def sp_init (CR : Addr) : Sp := fun vs H Q _ => ∃ (R dx LA : Addr), vs = [.ref R, .ref LA] ∧ H R = some (.ins CR dx []) ∧ ∀ H' PA, Frm R H H' → H PA = none → H' R = some (.ins CR dx (runF LA PA 0 0)) → H' PA = some (.lst []) → Q .non H'
theorem ok_init (T : TxtP K mg) (TR : TxtR K CR) {f : Addr} {fd : FuncData} (M : Mk K CR f) (hm : mg "Run" = some (.ref CR)) (F : C8.Fun K "__init__" "Run.__init__" s_Run_init f fd) (b : Binds K fd ["self", "delays"] []) : C8.Mak P w K mg base 1 "Run" CR (sp_init CR) [] := by
  refine C8.mak0 M hm F b .nil sc_Run_init (fun vs H Q E h => ?_) fun cdv A outer s H vs Q E hr h => ?_
  · obtain ⟨R, dx, LA, rfl, _⟩ := h; rfl
  · obtain ⟨R, dx, LA, rfl, hR, q⟩ := h
    have nd := sc_Run_init.nd
    refine ⟨_, (pss_cons (ps_fld (pv 0) (pv 1) rfl)
      (pss_cons (ps_fld (pv 0) pe_int rfl)
      (pss_cons (ps_fld (pv 0) pe_int rfl)
      (pss_one (ps_fld (pv 0) (pe_lst pa_nil) rfl))))), ?_⟩
    walk_at "go"
    refine ⟨_, rfl, _, rfl, R, CR, dx, _, rfl, hR, TR.c, TR.nD, by decide, ?_⟩
    walk_at "go"
    refine ⟨_, rfl, R, CR, dx, _, rfl, upd_same, TR.c, TR.nU, by show 1 < 1000; decide, ?_⟩
    walk_at "go"
    refine ⟨_, rfl, R, CR, dx, _, rfl, upd_same, TR.c, TR.nN, by show 2 < 1000; decide, ?_⟩
    walk_at "go"
    refine ⟨Nat.zero_le _, fun PA hPA => ⟨_, rfl, R, CR, dx, _, rfl, same_new hPA _ _ upd_same, TR.c, TR.nP, by show 3 < 1000; decide, ?_⟩⟩
    have f3 : Frm R H (upd (upd (upd H R (HO.ins CR dx (putF ("delays" : Str) (V.ref LA) []))) R (HO.ins CR dx (putF ("used" : Str) (V.int 0) (putF ("delays" : Str) (V.ref LA) [])))) R
      (HO.ins CR dx (putF ("now" : Str) (V.int 0) (putF ("used" : Str) (V.int 0) (putF ("delays" : Str) (V.ref LA) []))))) := (Frm.set.trans .set).trans .set
    have nPR : PA ≠ R := fun z => by rw [z, upd_same] at hPA; cases hPA
    walk_at "go"
    exact q _ PA ((f3.trans (.new hPA)).trans .set) (f3.back nPR hPA) upd_same (by rw [upd_ne nPR, upd_same])

mutual
theorem mp_le : ∀ (p : Pl) (d l : Nat), okP d l p → mp p ≤ Wd.cnt p * 10 ^ l
  | .pat, d, l, h => by simp only [mp, Wd.cnt, Nat.one_mul]; exact ten_pos l
  | .work _ _, d, l, h => Nat.zero_le _
  | .row ps, 0, l, h => by unfold okP at h; exact h.elim
  | .row ps, d + 1, l, h => by
    unfold okP at h
    have := mps_le ps d l h.2.2
    simp only [mp, Wd.cnt, Nat.add_mul]
    omega
  | .either ps, 0, l, h => by unfold okP at h; exact h.elim
  | .either ps, d + 1, l, h => by
    unfold okP at h
    have := mps_le ps d l h.2.2
    simp only [mp, Wd.cnt, Nat.add_mul]
    omega
  | .loop a b p, 0, l, h => by unfold okP at h; exact h.elim
  | .loop a b p, d + 1, 0, h => by unfold okP at h; exact h.elim
  | .loop a b p, d + 1, l + 1, h => by
    unfold okP at h
    have := mp_le p d l h.2.2.2
    simp only [mp, Wd.cnt, Nat.add_mul, Nat.pow_succ]
    have e : Wd.cnt p * (10 ^ l * 10) = 10 * (Wd.cnt p * 10 ^ l) := by rw [← Nat.mul_assoc, Nat.mul_comm]
    omega
theorem mps_le : ∀ (ps : List Pl) (d l : Nat), okPs d l ps → mps ps ≤ Wd.cnts ps * 10 ^ l
  | [], d, l, h => Nat.zero_le _
  | p :: ps, d, l, h => by
    unfold okPs at h
    have h1 := mp_le p d l h.1
    have h2 := mps_le ps d l h.2
    simp only [mps, Wd.cnts, Nat.add_mul]
    omega
end
end
end K02R
namespace K02R
open PySem PySem.Spec PyProof.Rows L2 Wd K02
/-! ### plans, and what is none, as data in the heap -/
mutual
inductive DA (H : Hp) : V → PyData → Prop
  | int (i : Int) : DA H (.int i) (.int i)
  | str (x : Str) : DA H (.str x) (.str x)
  | tup {a : Addr} {vs : List V} {ds : List PyData} : H a = some (.tup vs) → DAs H vs ds → DA H (.ref a) (.tuple ds)
inductive DAs (H : Hp) : List V → List PyData → Prop
  | nil : DAs H [] []
  | cons {v : V} {vs : List V} {d : PyData} {ds : List PyData} : DA H v d → DAs H vs ds → DAs H (v :: vs) (d :: ds)
end
mutual
theorem DA_keep {H H' : Hp} (e : KeepT H H') : ∀ (d : PyData) (v : V), DA H v d → DA H' v d
  | .tuple ds, _, h => by cases h with | tup h1 h2 => exact .tup (e _ _ h1) (DAs_keep e ds _ h2)
  | .int _, _, h => by cases h; exact .int _
  | .str _, _, h => by cases h; exact .str _
  | .none, _, h => by cases h
  | .bool _, _, h => by cases h
  | .list _, _, h => by cases h
  | .dict _, _, h => by cases h
theorem DAs_keep {H H' : Hp} (e : KeepT H H') : ∀ (ds : List PyData) (vs : List V), DAs H vs ds → DAs H' vs ds
  | [], _, h => by cases h; exact .nil
  | d :: ds, _, h => by cases h with | cons h1 h2 => exact .cons (DA_keep e d _ h1) (DAs_keep e ds _ h2)
end
mutual
theorem DA.dp {K : PySem.W.Frag} {H : Hp} : ∀ {d : PyData} {v : V}, DA H v d → Dp K H v d
  | .tuple ds, _, h => by cases h with | tup h1 h2 => exact .tup (SqT.of h1) (DAs.dp h2)
  | .int _, _, h => by cases h; exact .int _
  | .str _, _, h => by cases h; exact .str _
  | .none, _, h => by cases h
  | .bool _, _, h => by cases h
  | .list _, _, h => by cases h
  | .dict _, _, h => by cases h
theorem DAs.dp {K : PySem.W.Frag} {H : Hp} : ∀ {ds : List PyData} {vs : List V}, DAs H vs ds → DpAll K H vs ds
  | [], _, h => by cases h; exact .nil
  | d :: ds, _, h => by cases h with | cons h1 h2 => exact .cons (DA.dp h1) (DAs.dp h2)
end
theorem DAs.len {H : Hp} : ∀ {vs : List V} {ds : List PyData}, DAs H vs ds → vs.length = ds.length
  | [], [], _ => rfl
  | _ :: _, _ :: _, .cons _ h => by rw [List.length_cons, List.length_cons, DAs.len h]
theorem DAs.at {H : Hp} : ∀ {vs : List V} {ds : List PyData} {i : Nat} {d : PyData}, DAs H vs ds → ds[i]? = some d → ∃ v, vs[i]? = some v ∧ DA H v d
  | _, _, 0, _, .cons h _, e => by cases e; exact ⟨_, rfl, h⟩
  | _, _, i + 1, _, .cons _ h, e => DAs.at (i := i) h e
theorem DAs.at' {H : Hp} : ∀ {vs : List V} {ds : List PyData} {i : Nat} {v : V}, DAs H vs ds → vs[i]? = some v → ∃ d, ds[i]? = some d ∧ DA H v d
  | _, _, 0, _, .cons h _, e => by cases e; exact ⟨_, rfl, h⟩
  | _, _, i + 1, _, .cons _ h, e => DAs.at' (i := i) h e
theorem DAs.app {H : Hp} : ∀ {vs us : List V} {ds es : List PyData}, DAs H vs ds → DAs H us es → DAs H (vs ++ us) (ds ++ es)
  | _, _, _, _, .nil, h => h
  | _, _, _, _, .cons a b, h => .cons a (DAs.app b h)
theorem DAs.take {H : Hp} : ∀ {vs : List V} {ds : List PyData} (n : Nat), DAs H vs ds → DAs H (vs.take n) (ds.take n)
  | _, _, 0, _ => by rw [List.take_zero, List.take_zero]; exact .nil
  | _, _, n + 1, .nil => .nil
  | _, _, n + 1, .cons a b => .cons a (DAs.take n b)
theorem DAs.drop {H : Hp} : ∀ {vs : List V} {ds : List PyData} (n : Nat), DAs H vs ds → DAs H (vs.drop n) (ds.drop n)
  | _, _, 0, h => h
  | _, _, n + 1, .nil => .nil
  | _, _, n + 1, .cons _ b => DAs.drop n b
theorem DAs.rep {H : Hp} {v : V} {d : PyData} (h : DA H v d) : ∀ n : Nat, DAs H (List.replicate n [v]).flatten (List.replicate n d)
  | 0 => .nil
  | n + 1 => .cons h (DAs.rep h n)
mutual
/-- a plan's data -/
def plD : Pl → PyData
  | .pat => .tuple [.str "pat"]
  | .work a b => .tuple [.str "work", .int a, .int b]
  | .row ps => .tuple [.str "row", .tuple (plDs ps)]
  | .either ps => .tuple [.str "either", .tuple (plDs ps)]
  | .loop a b p => .tuple [.str "loop", .int a, .int b, plD p]
def plDs : List Pl → List PyData
  | [] => []
  | p :: ps => plD p :: plDs ps
end
mutual
theorem PlA_da {H : Hp} : ∀ (p : Pl) {v : V}, PlA H v p → DA H v (plD p)
  | .pat, _, h => by cases h with | pat h => exact .tup h (.cons (.str _) .nil)
  | .work _ _, _, h => by cases h with | work h => exact .tup h (.cons (.str _) (.cons (.int _) (.cons (.int _) .nil)))
  | .row ps, _, h => by cases h with | row h1 h2 h3 => exact .tup h1 (.cons (.str _) (.cons (.tup h2 (PlAs_da ps h3)) .nil))
  | .either ps, _, h => by cases h with | either h1 h2 h3 => exact .tup h1 (.cons (.str _) (.cons (.tup h2 (PlAs_da ps h3)) .nil))
  | .loop _ _ p, _, h => by cases h with | loop h1 h2 => exact .tup h1 (.cons (.str _) (.cons (.int _) (.cons (.int _) (.cons (PlA_da p h2) .nil))))
theorem PlAs_da {H : Hp} : ∀ (ps : List Pl) {vs : List V}, PlAs H vs ps → DAs H vs (plDs ps)
  | [], _, h => by cases h; exact .nil
  | p :: ps, _, h => by cases h with | cons h1 h2 => exact .cons (PlA_da p h1) (PlAs_da ps h2)
end
/-- of a shape that can be compared: so deep at the most, no tuple longer than thirty -/
inductive Sh : Nat → PyData → Prop
  | int {n : Nat} (i : Int) : Sh n (.int i)
  | str {n : Nat} {x : Str} : PyData.strOk x = true → Sh n (.str x)
  | tup {n : Nat} {ds : List PyData} : ds.length ≤ 30 → (∀ d ∈ ds, Sh n d) → Sh (n + 1) (.tuple ds)
theorem Sh.up {n : Nat} {d : PyData} (h : Sh n d) : Sh (n + 1) d := by
  induction h with
  | int i => exact .int i
  | str h => exact .str h
  | tup h1 _ ih => exact .tup h1 ih
theorem Sh.mono {n m : Nat} {d : PyData} (h : Sh n d) (l : n ≤ m) : Sh m d := by
  obtain ⟨k, rfl⟩ : ∃ k, m = n + k := ⟨m - n, by omega⟩
  clear l
  induction k with
  | zero => exact h
  | succ k ih => exact ih.up
theorem canAll_of {ds : List PyData} (h : ∀ d ∈ ds, d.canLay0 = true) : PyData.canLayAll0 ds = true := by
  induction ds with
  | nil => simp [PyData.canLayAll0]
  | cons d ds ih => simp [PyData.canLayAll0, h d List.mem_cons_self, ih fun y hy => h y (List.mem_cons_of_mem _ hy)]
theorem depthAll_of {n : Nat} {ds : List PyData} (h : ∀ d ∈ ds, d.depth ≤ n) : PyData.depthAll ds ≤ n := by
  induction ds with
  | nil => simp [PyData.depthAll]
  | cons d ds ih =>
    have h1 := h d List.mem_cons_self
    have h2 := ih fun y hy => h y (List.mem_cons_of_mem _ hy)
    simp only [PyData.depthAll]
    omega
theorem Sh.can {n : Nat} {d : PyData} (h : Sh n d) : d.canLay0 = true ∧ d.depth ≤ n := by
  induction h with
  | int i => exact ⟨by simp [PyData.canLay0], by simp [PyData.depth]⟩
  | str h => exact ⟨by simp [PyData.canLay0, h], by simp [PyData.depth]⟩
  | tup h1 _ ih => exact ⟨by simp only [PyData.canLay0]; exact canAll_of fun d hd => (ih d hd).1, by simp only [PyData.depth]; have := depthAll_of fun d hd => (ih d hd).2; omega⟩
theorem Sh.shaped {n : Nat} {d : PyData} (h : Sh n d) (l : n ≤ 64) : SeqAt.shaped d = true := by
  unfold SeqAt.shaped
  rw [Bool.and_eq_true]
  exact ⟨h.can.1, decide_eq_true (Nat.le_trans h.can.2 l)⟩
theorem Sh.in {n : Nat} {d : PyData} {ds : List PyData} (h : Sh n (.tuple ds)) (hd : d ∈ ds) : ∃ m, n = m + 1 ∧ Sh m d := by
  cases h with | tup _ h2 => exact ⟨_, rfl, h2 d hd⟩
theorem Sh.len {n : Nat} {ds : List PyData} (h : Sh n (.tuple ds)) : ds.length ≤ 30 := by
  cases h with | tup h1 _ => exact h1
theorem Sh.one {n : Nat} {a : PyData} (h1 : Sh n a) : Sh (n + 1) (.tuple [a]) := .tup (by show 1 ≤ 30; decide) fun d hd => by rw [List.mem_singleton] at hd; rw [hd]; exact h1
theorem Sh.two {n : Nat} {a b : PyData} (h1 : Sh n a) (h2 : Sh n b) : Sh (n + 1) (.tuple [a, b]) := .tup (by show 2 ≤ 30; decide) fun d hd => by
  simp only [List.mem_cons, List.not_mem_nil, or_false] at hd
  rcases hd with rfl | rfl
  · exact h1
  · exact h2
theorem Sh.three {n : Nat} {a b c : PyData} (h1 : Sh n a) (h2 : Sh n b) (h3 : Sh n c) : Sh (n + 1) (.tuple [a, b, c]) := .tup (by show 3 ≤ 30; decide) fun d hd => by
  simp only [List.mem_cons, List.not_mem_nil, or_false] at hd
  rcases hd with rfl | rfl | rfl
  · exact h1
  · exact h2
  · exact h3
theorem Sh.four {n : Nat} {a b c e : PyData} (h1 : Sh n a) (h2 : Sh n b) (h3 : Sh n c) (h4 : Sh n e) : Sh (n + 1) (.tuple [a, b, c, e]) := .tup (by show 4 ≤ 30; decide) fun d hd => by
  simp only [List.mem_cons, List.not_mem_nil, or_false] at hd
  rcases hd with rfl | rfl | rfl | rfl
  · exact h1
  · exact h2
  · exact h3
  · exact h4
theorem Sh.rep {n k : Nat} {a : PyData} (h1 : Sh n a) (hk : k ≤ 30) : Sh (n + 1) (.tuple (List.replicate k a)) := .tup (by rw [List.length_replicate]; exact hk) fun d hd => by rw [(List.mem_replicate.mp hd).2]; exact h1
theorem ok_pat : PyData.strOk ("pat" : Str) = true := by decide +kernel
theorem ok_pats : PyData.strOk ("pats" : Str) = true := by decide +kernel
theorem ok_work : PyData.strOk ("work" : Str) = true := by decide +kernel
theorem ok_row : PyData.strOk ("row" : Str) = true := by decide +kernel
theorem ok_either : PyData.strOk ("either" : Str) = true := by decide +kernel
theorem ok_loop : PyData.strOk ("loop" : Str) = true := by decide +kernel
theorem plDs_len : ∀ ps : List Pl, (plDs ps).length = ps.length
  | [] => rfl
  | p :: ps => by rw [plDs, List.length_cons, List.length_cons, plDs_len ps]
mutual
theorem plD_sh : ∀ (p : Pl) (d l : Nat), okP d l p → Sh (2 * d + 1) (plD p)
  | .pat, d, _, _ => by rw [plD]; exact .one (.str ok_pat)
  | .work _ _, d, _, _ => by rw [plD]; exact .three (.str ok_work) (.int _) (.int _)
  | .row ps, 0, _, h => by unfold okP at h; exact h.elim
  | .row ps, d + 1, l, h => by
    unfold okP at h
    rw [plD, show 2 * (d + 1) + 1 = (2 * d + 1) + 1 + 1 by omega]
    exact .two (.str ok_row) (.tup (by rw [plDs_len]; omega) (plDs_sh ps d l h.2.2))
  | .either ps, 0, _, h => by unfold okP at h; exact h.elim
  | .either ps, d + 1, l, h => by
    unfold okP at h
    rw [plD, show 2 * (d + 1) + 1 = (2 * d + 1) + 1 + 1 by omega]
    exact .two (.str ok_either) (.tup (by rw [plDs_len]; omega) (plDs_sh ps d l h.2.2))
  | .loop _ _ p, 0, _, h => by unfold okP at h; exact h.elim
  | .loop _ _ p, d + 1, 0, h => by unfold okP at h; exact h.elim
  | .loop _ _ p, d + 1, l + 1, h => by
    unfold okP at h
    rw [plD, show 2 * (d + 1) + 1 = (2 * d + 1) + 1 + 1 by omega]
    exact (Sh.four (.str ok_loop) (.int _) (.int _) (plD_sh p d l h.2.2.2)).up
theorem plDs_sh : ∀ (ps : List Pl) (d l : Nat), okPs d l ps → ∀ x ∈ plDs ps, Sh (2 * d + 1) x
  | [], _, _, _, x, hx => by rw [plDs] at hx; cases hx
  | p :: ps, d, l, h, x, hx => by
    unfold okPs at h
    rw [plDs] at hx
    rcases List.mem_cons.mp hx with rfl | hx
    · exact plD_sh p d l h.1
    · exact plDs_sh ps d l h.2 x hx
end
/-! ### what is a plan -/
inductive Nd where
  | bad
  | pat
  | work
  | many (e : Bool) (ds : List PyData)
  | loop (d : PyData)
def rgD (m : Int) : PyData → PyData → Bool
  | .int i, .int j => decide (0 ≤ i ∧ i ≤ j ∧ j ≤ m)
  | _, _ => false
/-- what has a word, by its rest -/
def ndW (w : Str) (rest : List PyData) : Nd :=
  if w = "pat" then (if rest.length = 0 then .pat else .bad)
  else if w = "work" then (match rest with
    | [a, b] => if rgD 1000 a b = true then .work else .bad
    | _ => .bad)
  else if w = "row" ∨ w = "either" then (match rest with
    | [.tuple ps] => if 1 ≤ ps.length ∧ ps.length ≤ 20 then .many (decide (w = "either")) ps else .bad
    | _ => .bad)
  else if w = "loop" then (match rest with
    | [a, b, c] => if rgD 9 a b = true then .loop c else .bad
    | _ => .bad)
  else .bad
def nd : PyData → Nd
  | .tuple (.str w :: rest) => ndW w rest
  | _ => .bad
/-- how many tuples are plans; a hundred and more where it is none: n deep, l loops around -/
def lk : Nat → Nat → PyData → Nat
  | 0, _, _ => 100
  | n + 1, l, d => match nd d with
    | .bad => 100
    | .pat => 1
    | .work => 1
    | .many _ ds => 1 + (ds.map (lk n l)).sum
    | .loop c => if l = 2 then 100 else 1 + lk n (l + 1) c
theorem lk_pos (n l : Nat) (d : PyData) : 1 ≤ lk n l d := by
  cases n with
  | zero => unfold lk; decide
  | succ n =>
    unfold lk
    split
    · decide
    · decide
    · decide
    · omega
    · split <;> omega
theorem sum_mem {α : Type} (f : α → Nat) : ∀ {l : List α} {x : α}, x ∈ l → f x ≤ (l.map f).sum
  | y :: l, x, h => by
    rw [List.map_cons, List.sum_cons]
    rcases List.mem_cons.mp h with rfl | h
    · omega
    · have := sum_mem f h; omega
theorem rgD_ints {m : Int} {a b : PyData} (h : rgD m a b = true) : ∃ i j : Int, a = .int i ∧ b = .int j ∧ 0 ≤ i ∧ i ≤ j ∧ j ≤ m := by
  unfold rgD at h
  split at h
  · exact ⟨_, _, rfl, rfl, of_decide_eq_true h⟩
  · cases h
/-- the shape of what has some kind -/
theorem nd_pat {d : PyData} (h : nd d = .pat) : d = .tuple [.str "pat"] := by
  unfold nd at h
  split at h
  · rename_i w rest
    unfold ndW at h
    split at h
    · rename_i e
      split at h
      · rename_i e2
        rw [e, List.length_eq_zero_iff.mp e2]
      · cases h
    · split at h
      · split at h
        · split at h <;> cases h
        · cases h
      · split at h
        · split at h
          · split at h <;> cases h
          · cases h
        · split at h
          · split at h
            · split at h <;> cases h
            · cases h
          · cases h
  · cases h
theorem nd_work {d : PyData} (h : nd d = .work) : ∃ i j : Int, d = .tuple [.str "work", .int i, .int j] ∧ 0 ≤ i ∧ i ≤ j ∧ j ≤ 1000 := by
  unfold nd at h
  split at h
  · rename_i w rest
    unfold ndW at h
    split at h
    · split at h <;> cases h
    · split at h
      · rename_i e
        split at h
        · split at h
          · rename_i hr
            obtain ⟨i, j, rfl, rfl, h1⟩ := rgD_ints hr
            exact ⟨i, j, by rw [e], h1⟩
          · cases h
        · cases h
      · split at h
        · split at h
          · split at h <;> cases h
          · cases h
        · split at h
          · split at h
            · split at h <;> cases h
            · cases h
          · cases h
  · cases h
theorem nd_many {d : PyData} {e : Bool} {ps : List PyData} (h : nd d = .many e ps) : (d = .tuple [.str (if e = true then "either" else "row"), .tuple ps]) ∧ 1 ≤ ps.length ∧ ps.length ≤ 20 := by
  unfold nd at h
  split at h
  · rename_i w rest
    unfold ndW at h
    split at h
    · split at h <;> cases h
    · split at h
      · split at h
        · split at h <;> cases h
        · cases h
      · split at h
        · rename_i ew
          split at h
          · split at h
            · rename_i hl
              cases h
              refine ⟨?_, hl⟩
              by_cases c : w = "either"
              · rw [decide_eq_true c, if_pos rfl, c]
              · rw [decide_eq_false c, if_neg (by decide), ew.resolve_right c]
            · cases h
          · cases h
        · split at h
          · split at h
            · split at h <;> cases h
            · cases h
          · cases h
  · cases h
theorem nd_loop {d c : PyData} (h : nd d = .loop c) : ∃ i j : Int, d = .tuple [.str "loop", .int i, .int j, c] ∧ 0 ≤ i ∧ i ≤ j ∧ j ≤ 9 := by
  unfold nd at h
  split at h
  · rename_i w rest
    unfold ndW at h
    split at h
    · split at h <;> cases h
    · split at h
      · split at h
        · split at h <;> cases h
        · cases h
      · split at h
        · split at h
          · split at h <;> cases h
          · cases h
        · split at h
          · rename_i e
            split at h
            · split at h
              · rename_i hr
                cases h
                obtain ⟨i, j, rfl, rfl, h1⟩ := rgD_ints hr
                exact ⟨i, j, by rw [e], h1⟩
              · cases h
            · cases h
          · cases h
  · cases h
/-- what counts to less than a hundred is a plan -/
theorem lk_pl {H : Hp} : ∀ (n l : Nat) (d : PyData) (v : V), l ≤ 2 → DA H v d → lk n l d < 100 → ∃ p, PlA H v p ∧ okP (n - 1) (2 - l) p ∧ Wd.cnt p = lk n l d
  | 0, l, d, v, _, _, h => by unfold lk at h; omega
  | n + 1, l, d, v, hl, hd, h => by
    have eq0 : lk (n + 1) l d = (match nd d with
      | .bad => 100
      | .pat => 1
      | .work => 1
      | .many _ ds => 1 + (ds.map (lk n l)).sum
      | .loop c => if l = 2 then 100 else 1 + lk n (l + 1) c) := by rw [lk]
    rw [eq0] at h ⊢
    clear eq0
    split at h
    · omega
    · rename_i hn
      have := nd_pat hn
      subst this
      cases hd with
      | tup h1 h2 =>
        cases h2 with
        | cons h3 h4 =>
          cases h3; cases h4
          exact ⟨.pat, .pat h1, by unfold okP; trivial, rfl⟩
    · rename_i hn
      obtain ⟨i, j, rfl, h5⟩ := nd_work hn
      cases hd with
      | tup h1 h2 =>
        cases h2 with
        | cons h3 h4 =>
          cases h3
          cases h4 with
          | cons h6 h7 =>
            cases h6
            cases h7 with
            | cons h8 h9 =>
              cases h8; cases h9
              exact ⟨.work i j, .work h1, by unfold okP; exact h5, rfl⟩
    · rename_i e ps hn
      obtain ⟨rfl, h5, h6⟩ := nd_many hn
      have h' : 1 + (ps.map (lk n l)).sum < 100 := h
      have all : ∀ x ∈ ps, lk n l x < 100 := fun x hx => by have := sum_mem (lk n l) hx; omega
      have n1 : ∃ n', n = n' + 1 := by
        cases n with
        | succ n => exact ⟨n, rfl⟩
        | zero =>
          cases ps with
          | nil => exact absurd h5 (by decide)
          | cons x xs => have := all x List.mem_cons_self; unfold lk at this; omega
      obtain ⟨n', rfl⟩ := n1
      cases hd with
      | tup h1 h2 =>
        cases h2 with
        | cons h3 h4 =>
          cases h3
          cases h4 with
          | cons h7 h8 =>
            cases h8
            cases h7 with
            | tup h9 h10 =>
              have kids : ∀ (ds : List PyData) (vs : List V), DAs H vs ds → (∀ x ∈ ds, lk (n' + 1) l x < 100) → ∃ qs, PlAs H vs qs ∧ okPs n' (2 - l) qs ∧ Wd.cnts qs = (ds.map (lk (n' + 1) l)).sum ∧ qs.length = ds.length := by
                intro ds
                induction ds with
                | nil => intro vs hv _; cases hv; exact ⟨[], .nil, by unfold okPs; trivial, by unfold Wd.cnts; rfl, rfl⟩
                | cons x xs ih =>
                  intro vs hv ha
                  cases hv with
                  | cons g1 g2 =>
                    obtain ⟨p, p1, p2, p3⟩ := lk_pl (n' + 1) l x _ hl g1 (ha x List.mem_cons_self)
                    obtain ⟨qs, q1, q2, q3, q4⟩ := ih _ g2 fun y hy => ha y (List.mem_cons_of_mem _ hy)
                    exact ⟨p :: qs, .cons p1 q1, by unfold okPs; exact ⟨p2, q2⟩, by rw [Wd.cnts, List.map_cons, List.sum_cons, p3, q3], by rw [List.length_cons, List.length_cons, q4]⟩
              obtain ⟨qs, q1, q2, q3, q4⟩ := kids ps _ h10 all
              cases e with
              | true => exact ⟨.either qs, .either h1 h9 q1, by show okP (n' + 1) _ _; unfold okP; exact ⟨by omega, by omega, q2⟩, by rw [Wd.cnt, q3]⟩
              | false => exact ⟨.row qs, .row h1 h9 q1, by show okP (n' + 1) _ _; unfold okP; exact ⟨by omega, by omega, q2⟩, by rw [Wd.cnt, q3]⟩
    · rename_i c hn
      obtain ⟨i, j, rfl, h5⟩ := nd_loop hn
      by_cases l2 : l = 2
      · rw [if_pos l2] at h; omega
      · rw [if_neg l2] at h ⊢
        have n1 : ∃ n', n = n' + 1 := by
          cases n with
          | succ n => exact ⟨n, rfl⟩
          | zero => unfold lk at h; omega
        obtain ⟨n', rfl⟩ := n1
        cases hd with
        | tup h1 h2 =>
          cases h2 with
          | cons h3 h4 =>
            cases h3
            cases h4 with
            | cons h6 h7 =>
              cases h6
              cases h7 with
              | cons h8 h9 =>
                cases h8
                cases h9 with
                | cons h10 h11 =>
                  cases h11
                  obtain ⟨p, p1, p2, p3⟩ := lk_pl (n' + 1) (l + 1) c _ (by omega) h10 (by omega)
                  refine ⟨.loop i j p, .loop h1 p1, ?_, by rw [Wd.cnt, p3]⟩
                  obtain ⟨k, hk⟩ : ∃ k, 2 - l = k + 1 := ⟨1 - l, by omega⟩
                  rw [show n' + 1 + 1 - 1 = n' + 1 from rfl, hk]
                  unfold okP
                  rw [show 2 - (l + 1) = k by omega] at p2
                  exact ⟨h5.1, h5.2.1, h5.2.2, p2⟩
end K02R
namespace K02R
open PySem PySem.Spec PyProof.Rows L2 Wd K02
local macro_rules | `(tactic| walk_at "gs") => `(tactic| repeat (first
  | with_reducible refine Wd.g_seq ?_
  | ((with_reducible show L2.Ends.nx _ _ _); (with_reducible refine Wd.g_nx ?_))
  | with_reducible refine Wd.g_asg ?_
  | ((with_reducible refine' Wd.g_var ?h1 ?_); (case h1 => exact rfl))
  | with_reducible refine Wd.g_c ?_
  | with_reducible refine Wd.g_op ?_
  | with_reducible refine Wd.g_un ?_
  | with_reducible refine Wd.g_I0 ?_
  | with_reducible refine Wd.g_U ?_
  | with_reducible refine Wd.g_eqI ?_
  | with_reducible refine Wd.g_neI ?_
  | with_reducible refine Wd.g_eqS ?_
  | with_reducible refine Wd.g_neS ?_
  | with_reducible refine Wd.g_eqB ?_
  | with_reducible refine Wd.g_neB ?_
  | with_reducible refine Wd.g_isN ?_
  | with_reducible refine Wd.g_notN ?_
  | with_reducible refine Wd.g_lc ?_
  | with_reducible refine Wd.g_yes ?_
  | with_reducible refine Wd.g_test ?_
  | with_reducible refine Wd.g_tB ?_
  | with_reducible refine Wd.g_bl ?_
  | with_reducible refine Wd.g_blI ?_
  | with_reducible refine Wd.g_and ?_
  | with_reducible refine Wd.g_or ?_
  | with_reducible refine Wd.g_not ?_
  | with_reducible refine Wd.g_andV ?_
  | with_reducible refine Wd.g_orV ?_
  | with_reducible refine Wd.g_notV ?_
  | with_reducible refine Wd.g_if ?_
  | with_reducible refine Wd.g_chain ?_
  | with_reducible refine Wd.g_chain3 ?_
  | with_reducible refine Wd.g_nil ?_
  | with_reducible refine Wd.g_cons ?_
  | with_reducible refine Wd.g_tup ?_
  | with_reducible refine Wd.g_lst ?_
  | with_reducible refine Wd.g_CB ?_
  | with_reducible refine Wd.g_call ?_
  | with_reducible refine Wd.g_callS ?_
  | with_reducible refine Wd.g_bm ?_
  | with_reducible refine Wd.g_bm0 ?_
  | with_reducible refine Wd.g_sl ?_
  | with_reducible refine Wd.g_part ?_
  | with_reducible refine Wd.g_part1 ?_
  | with_reducible refine Wd.g_noPart ?_
  | with_reducible refine Wd.g_next ?_
  | with_reducible refine Wd.g_name ?_
  | with_reducible refine Wd.g_sub ?_
  | with_reducible refine Wd.g_gnil ?_
  | with_reducible refine Wd.g_gcons ?_
  | with_reducible refine Wd.g_drop ?_
  | with_reducible refine Wd.g_ret ?_
  | with_reducible refine Wd.g_retN ?_
  | with_reducible refine Wd.g_brk ?_
  | with_reducible refine Wd.g_cont ?_
  | ((with_reducible show L2.Ends.bk _ _ _); (with_reducible refine Wd.g_bk ?_))
  | ((with_reducible show L2.Ends.ct _ _ _); (with_reducible refine Wd.g_ct ?_))
  | ((with_reducible show L2.Ends.rt _ _ _); (with_reducible refine Wd.g_rt ?_))
  | with_reducible refine Wd.g_for ?_
  | with_reducible refine Wd.g_rng1 ?_
  | with_reducible refine Wd.g_rng2 ?_
  | with_reducible refine Wd.g_iList ?_
  | with_reducible refine Wd.g_iTup ?_
  | ((with_reducible refine Wd.g_fit ?h1 ?_); (case h1 => exact rfl))
  | with_reducible refine Wd.g_max2 ?_
  | with_reducible refine Wd.g_min2 ?_
  | with_reducible refine Wd.g_int1B ?_
  | with_reducible refine L2.iteT ?_
  | with_reducible refine L2.iteF ?_
  | ((with_reducible refine Wd.g_itT ?h1 ?_); (case h1 => exact rfl))
  | ((with_reducible refine Wd.g_itF ?h1 ?_); (case h1 => exact rfl))))
def isTup : PyData → Bool
  | .tuple _ => true
  | _ => false
def isInt : PyData → Bool
  | .int _ => true
  | _ => false
def isStr : PyData → Bool
  | .str _ => true
  | _ => false
def isW (x : Str) : PyData → Bool
  | .str y => decide (y = x)
  | _ => false
section
variable {K : PySem.W.Frag} {H : Hp} {v : V} {d : PyData} {Q : VK} {n : Nat}
theorem use_isT (h : DA H v d) (q : Q (.bl (isTup d)) H) : rIsi K [v, .ty "tuple"] H Q := by
  cases h with
  | int i => exact g_isi (.ty "tuple") (.base (.int i)) (kit_ty (r := false) (by decide +kernel)) q
  | str x => exact g_isi (.ty "tuple") (.base (.str x)) (kit_ty (r := false) (by decide +kernel)) q
  | tup h1 h2 => exact g_isi (.ty "tuple") (ty_tup (SqT.of h1)) (kit_ty (r := true) (by decide +kernel)) q
theorem use_isI (h : DA H v d) (q : Q (.bl (isInt d)) H) : rIsi K [v, .ty "int"] H Q := by
  cases h with
  | int i => exact g_isi (.ty "int") (.base (.int i)) (kit_ty (r := true) (by decide +kernel)) q
  | str x => exact g_isi (.ty "int") (.base (.str x)) (kit_ty (r := false) (by decide +kernel)) q
  | tup h1 h2 => exact g_isi (.ty "int") (ty_tup (SqT.of h1)) (kit_ty (r := false) (by decide +kernel)) q
theorem use_isB (h : DA H v d) (q : Q (.bl false) H) : rIsi K [v, .ty "bool"] H Q := by
  cases h with
  | int i => exact g_isi (.ty "bool") (.base (.int i)) (kit_ty (r := false) (by decide +kernel)) q
  | str x => exact g_isi (.ty "bool") (.base (.str x)) (kit_ty (r := false) (by decide +kernel)) q
  | tup h1 h2 => exact g_isi (.ty "bool") (ty_tup (SqT.of h1)) (kit_ty (r := false) (by decide +kernel)) q
theorem use_isS (h : DA H v d) (q : Q (.bl (isStr d)) H) : rIsi K [v, .ty "str"] H Q := by
  cases h with
  | int i => exact g_isi (.ty "str") (.base (.int i)) (kit_ty (r := false) (by decide +kernel)) q
  | str x => exact g_isi (.ty "str") (.base (.str x)) (kit_ty (r := true) (by decide +kernel)) q
  | tup h1 h2 => exact g_isi (.ty "str") (ty_tup (SqT.of h1)) (kit_ty (r := false) (by decide +kernel)) q
theorem str_shaped {x : Str} (hx : PyData.strOk x = true) : SeqAt.shaped (.str x) = true := (Sh.str (n := 0) hx).shaped (Nat.zero_le _)
theorem use_eqW {x : Str} (h : DA H v d) (s : Sh n d) (hn : n ≤ 64) (hx : PyData.strOk x = true) (q : Q (.bl (isW x d)) H) : rEqD K v (.str x) H Q := by
  refine ⟨d, .str x, h.dp, .str x, s.shaped hn, str_shaped hx, ?_⟩
  have : PyData.eqv d (.str x) = isW x d := by
    cases h with
    | int i => simp [PyData.eqv, isW]
    | str y => by_cases c : y = x <;> simp [PyData.eqv, isW, c]
    | tup _ _ => simp [PyData.eqv, isW]
  rw [this]; exact q
def isNil : PyData → Bool
  | .tuple [] => true
  | _ => false
theorem nil_shaped : SeqAt.shaped (.tuple []) = true := (Sh.tup (n := 0) (ds := []) (by decide) (by intro d hd; cases hd)).shaped (by decide)
theorem use_eqN {t : Addr} (h : DA H v d) (s : Sh n d) (hn : n ≤ 64) (ht : H t = some (.tup [])) (q : Q (.bl (isNil d)) H) : rEqD K v (.ref t) H Q := by
  refine ⟨d, .tuple [], h.dp, .tup (SqT.of ht) .nil, s.shaped hn, nil_shaped, ?_⟩
  have : PyData.eqv d (.tuple []) = isNil d := by
    cases h with
    | int i => simp [PyData.eqv, isNil]
    | str y => simp [PyData.eqv, isNil]
    | tup _ h2 => cases h2 <;> simp [PyData.eqv, PyData.eqvAll, isNil]
  rw [this]; exact q
theorem use_neN {t : Addr} (h : DA H v d) (s : Sh n d) (hn : n ≤ 64) (ht : H t = some (.tup [])) (q : Q (.bl (!isNil d)) H) : rNeD K v (.ref t) H Q := by
  obtain ⟨d', e, h1, h2, h3, h4, h5⟩ := use_eqN (K := K) (Q := fun v _ => v = .bl (isNil d)) h s hn ht rfl
  have : PyData.eqv d' e = isNil d := V.bl.inj h5
  exact ⟨d', e, h1, h2, h3, h4, by rw [this]; exact q⟩
end
def hfN : Nd → Bool
  | .bad => false
  | _ => true
theorem ndW_pat (rest : List PyData) : ndW "pat" rest = if rest.length = 0 then .pat else .bad := by unfold ndW; rw [if_pos rfl]
theorem ndW_work {a b : PyData} : ndW "work" [a, b] = if rgD 1000 a b = true then .work else .bad := by unfold ndW; rw [if_neg (by decide), if_pos rfl]
theorem ndW_work_no {rest : List PyData} (h : rest.length ≠ 2) : ndW "work" rest = .bad := by
  unfold ndW; rw [if_neg (by decide), if_pos rfl]
  split
  · exact absurd rfl h
  · rfl
theorem ndW_many {w : Str} {ps : List PyData} (h : w = "row" ∨ w = "either") : ndW w [.tuple ps] = if 1 ≤ ps.length ∧ ps.length ≤ 20 then .many (decide (w = "either")) ps else .bad := by
  unfold ndW
  rcases h with rfl | rfl
  · rw [if_neg (by decide), if_neg (by decide), if_pos (.inl rfl)]
  · rw [if_neg (by decide), if_neg (by decide), if_pos (.inr rfl)]
theorem ndW_many_no {w : Str} {rest : List PyData} (h : w = "row" ∨ w = "either") (hr : ∀ ps, rest ≠ [.tuple ps]) : ndW w rest = .bad := by
  unfold ndW
  have e : ∀ rest : List PyData, (∀ ps, rest ≠ [.tuple ps]) → (match rest with
    | [.tuple ps] => if 1 ≤ ps.length ∧ ps.length ≤ 20 then Nd.many (decide (w = "either")) ps else .bad
    | _ => .bad) = .bad := fun rest hr => by
    split
    · exact absurd rfl (hr _)
    · rfl
  rcases h with rfl | rfl
  · rw [if_neg (by decide), if_neg (by decide), if_pos (.inl rfl)]; exact e rest hr
  · rw [if_neg (by decide), if_neg (by decide), if_pos (.inr rfl)]; exact e rest hr
theorem ndW_loop {a b c : PyData} : ndW "loop" [a, b, c] = if rgD 9 a b = true then .loop c else .bad := by unfold ndW; rw [if_neg (by decide), if_neg (by decide), if_neg (by decide), if_pos rfl]
theorem ndW_loop_no {rest : List PyData} (h : rest.length ≠ 3) : ndW "loop" rest = .bad := by
  unfold ndW; rw [if_neg (by decide), if_neg (by decide), if_neg (by decide), if_pos rfl]
  split
  · exact absurd rfl h
  · rfl
theorem ndW_no {w : Str} {rest : List PyData} (h1 : w ≠ "pat") (h2 : w ≠ "work") (h3 : w ≠ "row") (h4 : w ≠ "either") (h5 : w ≠ "loop") : ndW w rest = .bad := by
  unfold ndW; rw [if_neg h1, if_neg h2, if_neg (fun z => z.elim h3 h4), if_neg h5]
theorem nd_no {x : PyData} {rest : List PyData} (h : isStr x = false) : nd (.tuple (x :: rest)) = .bad := by
  cases x <;> first | rfl | cases h
section
variable {P : Program} {w : World} {K : PySem.W.Frag} {mg : Str → Option Value} {base : Heap}
theorem sc_is_number : FnScope ["value"] ["value"] (C8.fnScope s_is_number) := C8.fnScope_by (by decide +kernel)
def sp_numberD : Sp := fun vs H Q _ => ∃ (v : V) (d : PyData), vs = [v] ∧ DA H v d ∧ Q (.bl (isInt d)) H
theorem ok_numberD (T : TxtP K mg) {f : Addr} {fd : FuncData} (D : C8.Def K mg "is_number" s_is_number f fd) (b : Binds K fd ["value"] []) : C8.Cal P w K mg base 1 "is_number" sp_numberD [] := by
  refine C8.cal0 D b .nil sc_is_number (fun vs H Q E h => ?_) fun cdv A outer s H vs Q E hr h => ?_
  · obtain ⟨v, d, rfl, _⟩ := h; rfl
  · obtain ⟨v, d, rfl, hd, q⟩ := h
    have nd := sc_is_number.nd
    refine ⟨_, (pss_one (ps_ret (pe_and (pe_callB (r := rIsi K) call_isi (by rfl) T.n_isinstance (by decide +kernel) (pa_cons (pv 0) (pa_cons (pe_bltn (v := .ty "int") (by rfl) T.n_int (by decide +kernel) rfl) pa_nil))) (pe_one (pe_not (pe_callB (r := rIsi K) call_isi (by rfl) T.n_isinstance (by decide +kernel) (pa_cons (pv 0) (pa_cons (pe_bltn (v := .ty "bool") (by rfl) T.n_bool (by decide +kernel) rfl) pa_nil)))))))), ?_⟩
    walk_at "go"
    refine use_isI hd ?_
    cases hc : isInt d with
    | false =>
      rw [hc] at q
      walk_at "go"
      exact q
    | true =>
      rw [hc] at q
      walk_at "go"
      refine use_isB hd ?_
      walk_at "go"
      exact q

theorem sc_is_range : FnScope ["least", "most", "limit"] ["least", "most", "limit"] (C8.fnScope s_is_range) := C8.fnScope_by (by decide +kernel)
def sp_rangeD : Sp := fun vs H Q _ => ∃ (v1 v2 : V) (d1 d2 : PyData) (k : Int), vs = [v1, v2, .int k] ∧ DA H v1 d1 ∧ DA H v2 d2 ∧ Q (.bl (rgD k d1 d2)) H
theorem ok_rangeD (T : TxtP K mg) {f : Addr} {fd : FuncData} (D : C8.Def K mg "is_range" s_is_range f fd) (b : Binds K fd ["least", "most", "limit"] []) (g_is_number : C8.Cal P w K mg base 1 "is_number" sp_numberD []) : C8.Cal P w K mg base 2 "is_range" sp_rangeD [] := by
  refine C8.cal0 D b .nil sc_is_range (fun vs H Q E h => ?_) fun cdv A outer s H vs Q E hr h => ?_
  · obtain ⟨v1, v2, d1, d2, k, rfl, _⟩ := h; rfl
  · obtain ⟨v1, v2, d1, d2, k, rfl, h1, h2, q⟩ := h
    have nd := sc_is_range.nd
    refine ⟨_, (pss_one (ps_ret (pe_and (C8.pe_c g_is_number hr (by first | decide | exact Nat.le_refl _ | omega) (by rfl) (pa_cons (pv 0) pa_nil)) (pe_and (C8.pe_c g_is_number hr (by first | decide | exact Nat.le_refl _ | omega) (by rfl) (pa_cons (pv 1) pa_nil)) (pe_one (pe_chain3 op_le op_le op_le pe_int (pv 0) (pv 1) (pv 2))))))), ?_⟩
    walk_at "go"
    refine ⟨v1, d1, rfl, h1, ?_⟩
    cases h1 with
    | str x => 
      walk_at "go"
      exact q
    | tup _ _ =>
      walk_at "go"
      exact q
    | int i =>
      walk_at "go"
      refine ⟨v2, d2, rfl, h2, ?_⟩
      cases h2 with
      | str x =>
        walk_at "go"
        exact q
      | tup _ _ =>
        walk_at "go"
        exact q
      | int j =>
        have e : rgD k (.int i) (.int j) = decide (0 ≤ i ∧ i ≤ j ∧ j ≤ k) := rfl
        rw [e] at q
        walk_at "go"
        refine g_ite (fun g1 => ?_) (fun g1 => ?_)
        · walk_at "go"
          refine g_ite (fun g2 => ?_) (fun g2 => ?_)
          · walk_at "go"
            have e2 : decide (0 ≤ i ∧ i ≤ j ∧ j ≤ k) = decide (j ≤ k) := decide_eq_decide.mpr ⟨fun z => z.2.2, fun z => ⟨g1, g2, z⟩⟩
            rw [e2] at q
            exact q
          · rw [decide_eq_false (fun z => g2 z.2.1)] at q
            exact q
        · rw [decide_eq_false (fun z => g1 z.1)] at q
          exact q
end
end K02R
namespace K02R
open PySem PySem.Spec PyProof.Rows L2 Wd K02
local macro_rules | `(tactic| walk_at "gs") => `(tactic| repeat (first
  | with_reducible refine Wd.g_seq ?_
  | ((with_reducible show L2.Ends.nx _ _ _); (with_reducible refine Wd.g_nx ?_))
  | with_reducible refine Wd.g_asg ?_
  | ((with_reducible refine' Wd.g_var ?h1 ?_); (case h1 => exact rfl))
  | with_reducible refine Wd.g_c ?_
  | with_reducible refine Wd.g_op ?_
  | with_reducible refine Wd.g_un ?_
  | with_reducible refine Wd.g_I0 ?_
  | with_reducible refine Wd.g_U ?_
  | with_reducible refine Wd.g_eqI ?_
  | with_reducible refine Wd.g_neI ?_
  | with_reducible refine Wd.g_eqS ?_
  | with_reducible refine Wd.g_neS ?_
  | with_reducible refine Wd.g_eqB ?_
  | with_reducible refine Wd.g_neB ?_
  | with_reducible refine Wd.g_isN ?_
  | with_reducible refine Wd.g_notN ?_
  | with_reducible refine Wd.g_lc ?_
  | with_reducible refine Wd.g_yes ?_
  | with_reducible refine Wd.g_test ?_
  | with_reducible refine Wd.g_tB ?_
  | with_reducible refine Wd.g_bl ?_
  | with_reducible refine Wd.g_blI ?_
  | with_reducible refine Wd.g_and ?_
  | with_reducible refine Wd.g_or ?_
  | with_reducible refine Wd.g_not ?_
  | with_reducible refine Wd.g_andV ?_
  | with_reducible refine Wd.g_orV ?_
  | with_reducible refine Wd.g_notV ?_
  | with_reducible refine Wd.g_if ?_
  | with_reducible refine Wd.g_chain ?_
  | with_reducible refine Wd.g_chain3 ?_
  | with_reducible refine Wd.g_nil ?_
  | with_reducible refine Wd.g_cons ?_
  | with_reducible refine Wd.g_tup ?_
  | with_reducible refine Wd.g_lst ?_
  | with_reducible refine Wd.g_CB ?_
  | with_reducible refine Wd.g_call ?_
  | with_reducible refine Wd.g_callS ?_
  | with_reducible refine Wd.g_bm ?_
  | with_reducible refine Wd.g_bm0 ?_
  | with_reducible refine Wd.g_sl ?_
  | with_reducible refine Wd.g_part ?_
  | with_reducible refine Wd.g_part1 ?_
  | with_reducible refine Wd.g_noPart ?_
  | with_reducible refine Wd.g_next ?_
  | with_reducible refine Wd.g_name ?_
  | with_reducible refine Wd.g_sub ?_
  | with_reducible refine Wd.g_gnil ?_
  | with_reducible refine Wd.g_gcons ?_
  | with_reducible refine Wd.g_drop ?_
  | with_reducible refine Wd.g_ret ?_
  | with_reducible refine Wd.g_retN ?_
  | with_reducible refine Wd.g_brk ?_
  | with_reducible refine Wd.g_cont ?_
  | ((with_reducible show L2.Ends.bk _ _ _); (with_reducible refine Wd.g_bk ?_))
  | ((with_reducible show L2.Ends.ct _ _ _); (with_reducible refine Wd.g_ct ?_))
  | ((with_reducible show L2.Ends.rt _ _ _); (with_reducible refine Wd.g_rt ?_))
  | with_reducible refine Wd.g_for ?_
  | with_reducible refine Wd.g_rng1 ?_
  | with_reducible refine Wd.g_rng2 ?_
  | with_reducible refine Wd.g_iList ?_
  | with_reducible refine Wd.g_iTup ?_
  | ((with_reducible refine Wd.g_fit ?h1 ?_); (case h1 => exact rfl))
  | with_reducible refine Wd.g_max2 ?_
  | with_reducible refine Wd.g_min2 ?_
  | with_reducible refine Wd.g_int1B ?_
  | with_reducible refine L2.iteT ?_
  | with_reducible refine L2.iteF ?_
  | ((with_reducible refine Wd.g_itT ?h1 ?_); (case h1 => exact rfl))
  | ((with_reducible refine Wd.g_itF ?h1 ?_); (case h1 => exact rfl))))
section
variable {P : Program} {w : World} {K : PySem.W.Frag} {mg : Str → Option Value} {base : Heap}
theorem isW_no {x : Str} {d : PyData} (h : isStr d = false) : isW x d = false := by
  cases d <;> first | rfl | cases h
theorem hfN_if {c : Prop} [Decidable c] {x : Nd} (h : hfN x = true) : hfN (if c then x else .bad) = decide c := by
  by_cases hc : c
  · rw [if_pos hc, decide_eq_true hc, h]
  · rw [if_neg hc, decide_eq_false hc]; rfl
theorem sc_has_form : FnScope ["plan", "word"] ["plan"] (C8.fnScope s_has_form) := C8.fnScope_by (by decide +kernel)
def sp_formD : Sp := fun vs H Q _ => ∃ (v : V) (d : PyData) (n : Nat), vs = [v] ∧ DA H v d ∧ Sh n d ∧ n ≤ 64 ∧ Q (.bl (hfN (nd d))) H
theorem ok_formD (T : TxtP K mg) {f : Addr} {fd : FuncData} (D : C8.Def K mg "has_form" s_has_form f fd) (b : Binds K fd ["plan"] []) (g_is_range : C8.Cal P w K mg base 2 "is_range" sp_rangeD []) : C8.Cal P w K mg base 3 "has_form" sp_formD [] := by
  refine C8.cal0 D b .nil sc_has_form (fun vs H Q E h => ?_) fun cdv A outer s H vs Q E hr h => ?_
  · obtain ⟨v, d, n, rfl, _⟩ := h; rfl
  · obtain ⟨v, d, n, rfl, hd, sh, hn, q⟩ := h
    have nd := sc_has_form.nd
    obtain ⟨_, c_LONGEST_WORK⟩ := T.k_LONGEST_WORK
    obtain ⟨_, c_MOST_TIMES⟩ := T.k_MOST_TIMES
    obtain ⟨_, c_LONGEST_ROW⟩ := T.k_LONGEST_ROW
    refine ⟨_, (pss_cons (ps_if (PW.pt (pw_or (pt_not (pt_val (pe_callB (r := rIsi K) call_isi (by rfl) T.n_isinstance (by decide +kernel) (pa_cons (pv 0) (pa_cons (pe_bltn (v := .ty "tuple") (by rfl) T.n_tuple (by decide +kernel) rfl) pa_nil))))) (pw_or1 (pt_not (pt_truth (pv 0) (by intro _; rfl)))))) (pss_one (ps_ret pe_bl)) pss_nil)
      (pss_cons (ps_set (i := 1) nd rfl (Or.inl rfl) (pe_ix (r := rIxT K) ix_tup (pv 0) pe_int (fun _ _ => rfl)))
      (pss_cons (ps_if (pt_cmpR (r := rEqD K) (op_eqD hr.units) (pv 1) pe_str (nomark _)) (pss_one (ps_ret (pe_cmpR op_eq (pe_callB (r := Wd.rLen K) call_len1 (by rfl) T.n_len PySem.boot_len (pa_cons (pv 0) pa_nil)) pe_int (nomark _)))) pss_nil)
      (pss_cons (ps_if (pt_cmpR (r := rEqD K) (op_eqD hr.units) (pv 1) pe_str (nomark _)) (pss_one (ps_ret (pe_and (pe_cmpR op_eq (pe_callB (r := Wd.rLen K) call_len1 (by rfl) T.n_len PySem.boot_len (pa_cons (pv 0) pa_nil)) pe_int (nomark _)) (pe_one (C8.pe_c g_is_range hr (by first | decide | exact Nat.le_refl _ | omega) (by rfl) (pa_cons (pe_ix (r := rIxT K) ix_tup (pv 0) pe_int (fun _ _ => rfl)) (pa_cons (pe_ix (r := rIxT K) ix_tup (pv 0) pe_int (fun _ _ => rfl)) (pa_cons (pe_glob (v := .int 1000) rfl c_LONGEST_WORK ⟨_, rfl⟩) pa_nil)))))))) pss_nil)
      (pss_cons (ps_if (PW.pt (pw_or (pt_cmpR (r := rEqD K) (op_eqD hr.units) (pv 1) pe_str (nomark _)) (pw_or1 (pt_cmpR (r := rEqD K) (op_eqD hr.units) (pv 1) pe_str (nomark _))))) (pss_one (ps_ret (pe_and (pe_cmpR op_eq (pe_callB (r := Wd.rLen K) call_len1 (by rfl) T.n_len PySem.boot_len (pa_cons (pv 0) pa_nil)) pe_int (nomark _)) (pe_and (pe_callB (r := rIsi K) call_isi (by rfl) T.n_isinstance (by decide +kernel) (pa_cons (pe_ix (r := rIxT K) ix_tup (pv 0) pe_int (fun _ _ => rfl)) (pa_cons (pe_bltn (v := .ty "tuple") (by rfl) T.n_tuple (by decide +kernel) rfl) pa_nil))) (pe_one (pe_chain op_le op_le pe_int (pe_callB (r := Wd.rLen K) call_len1 (by rfl) T.n_len PySem.boot_len (pa_cons (pe_ix (r := rIxT K) ix_tup (pv 0) pe_int (fun _ _ => rfl)) pa_nil)) (pe_glob (v := .int 20) rfl c_LONGEST_ROW ⟨_, rfl⟩))))))) pss_nil)
      (pss_cons (ps_if (pt_cmpR (r := rEqD K) (op_eqD hr.units) (pv 1) pe_str (nomark _)) (pss_one (ps_ret (pe_and (pe_cmpR op_eq (pe_callB (r := Wd.rLen K) call_len1 (by rfl) T.n_len PySem.boot_len (pa_cons (pv 0) pa_nil)) pe_int (nomark _)) (pe_one (C8.pe_c g_is_range hr (by first | decide | exact Nat.le_refl _ | omega) (by rfl) (pa_cons (pe_ix (r := rIxT K) ix_tup (pv 0) pe_int (fun _ _ => rfl)) (pa_cons (pe_ix (r := rIxT K) ix_tup (pv 0) pe_int (fun _ _ => rfl)) (pa_cons (pe_glob (v := .int 9) rfl c_MOST_TIMES ⟨_, rfl⟩) pa_nil)))))))) pss_nil)
      (pss_one (ps_ret pe_bl)))))))), ?_⟩
    walk_at "go"
    refine use_isT hd ?_
    cases hd with
    | int i =>
      walk_at "go"
      exact q
    | str x =>
      walk_at "go"
      exact q
    | tup ha hs =>
      walk_at "go"
      refine ⟨_, .inr (.inl ⟨_, SqT.of ha, rfl⟩), ?_⟩
      cases hs with
      | nil =>
        walk_at "go"
        exact q
      | @cons v0 vr d0 rest h0 hr' =>
        obtain ⟨m, rfl, sh0⟩ := sh.in List.mem_cons_self
        have hm : m ≤ 64 := by omega
        have lr := hr'.len
        walk_at "go"
        refine g_ixT (SqT.of ha) (at_of (j := 0) rfl rfl) ?_
        walk_at "go"
        refine use_eqW h0 sh0 hm ok_pat ?_
        cases hS : isStr d0 with
        | false =>
          rw [nd_no hS] at q
          rw [isW_no hS]
          walk_at "go"
          refine use_eqW h0 sh0 hm ok_work ?_
          rw [isW_no hS]
          walk_at "go"
          refine use_eqW h0 sh0 hm ok_row ?_
          rw [isW_no hS]
          walk_at "go"
          refine use_eqW h0 sh0 hm ok_either ?_
          rw [isW_no hS]
          walk_at "go"
          refine use_eqW h0 sh0 hm ok_loop ?_
          rw [isW_no hS]
          walk_at "go"
          exact q
        | true =>
          cases h0 with
          | int _ => cases hS
          | tup _ _ => cases hS
          | str wd =>
            have ew : ∀ x : Str, isW x (.str wd) = decide (wd = x) := fun x => rfl
            have en : K02R.nd (.tuple (.str wd :: rest)) = ndW wd rest := rfl
            rw [en] at q
            rw [ew]
            by_cases c1 : wd = "pat"
            · rw [decide_eq_true c1]
              walk_at "go"
              refine g_len (.inr (SqT.of ha)) ?_
              walk_at "go"
              rw [c1, ndW_pat, hfN_if rfl] at q
              have e : decide (((.str wd :: vr : List V).length : Int) = 1) = decide (rest.length = 0) := decide_eq_decide.mpr (by rw [List.length_cons, lr]; omega)
              rw [e]
              exact q
            rw [decide_eq_false c1]
            walk_at "go"
            refine use_eqW (.str wd) sh0 hm ok_work ?_
            rw [ew]
            by_cases c2 : wd = "work"
            · rw [decide_eq_true c2]
              walk_at "go"
              refine g_len (.inr (SqT.of ha)) ?_
              walk_at "go"
              by_cases l2 : rest.length = 2
              · match rest, vr, hr', l2 with
                | [a, b], _, .cons h1 (.cons h2 .nil), _ =>
                  refine g_ite (fun _ => ?_) (fun z => absurd rfl z)
                  walk_at "go"
                  refine g_ixT (SqT.of ha) rfl ?_
                  walk_at "go"
                  refine g_ixT (SqT.of ha) rfl ?_
                  walk_at "go"
                  refine ⟨_, _, a, b, 1000, rfl, h1, h2, ?_⟩
                  rw [c2, ndW_work, hfN_if rfl] at q
                  rw [show decide (rgD 1000 a b = true) = rgD 1000 a b by cases rgD 1000 a b <;> rfl] at q
                  exact q
              · refine g_ite (fun z => absurd (by rw [List.length_cons, lr] at z; omega) l2) (fun _ => ?_)
                rw [c2, ndW_work_no l2] at q
                exact q
            rw [decide_eq_false c2]
            walk_at "go"
            refine use_eqW (.str wd) sh0 hm ok_row ?_
            rw [ew]
            by_cases c3 : wd = "row"
            · rw [decide_eq_true c3]
              have cm : wd = "row" ∨ wd = "either" := .inl c3
              walk_at "go"
              refine g_len (.inr (SqT.of ha)) ?_
              walk_at "go"
              by_cases l1 : rest.length = 1
              · match rest, vr, hr', l1, sh with
                | [a], [va], .cons h1 .nil, _, sh =>
                  refine g_ite (fun _ => ?_) (fun z => absurd rfl z)
                  walk_at "go"
                  refine g_ixT (SqT.of ha) rfl ?_
                  walk_at "go"
                  refine use_isT h1 ?_
                  have no : isTup a = false → Q (.bl false) H := fun hT => by
                    rw [ndW_many_no cm (fun ps e => by cases e; cases hT)] at q
                    exact q
                  cases h1 with
                  | int i =>
                    walk_at "go"
                    exact no rfl
                  | str x =>
                    walk_at "go"
                    exact no rfl
                  | @tup a1 us ps g1 g2 =>
                    walk_at "go"
                    refine g_ixT (SqT.of ha) rfl ?_
                    walk_at "go"
                    refine g_len (.inr (SqT.of g1)) ?_
                    walk_at "go"
                    rw [g2.len]
                    rw [ndW_many cm, hfN_if rfl] at q
                    refine g_ite (fun z1 => ?_) (fun z1 => ?_)
                    · walk_at "go"
                      have e : decide (1 ≤ ps.length ∧ ps.length ≤ 20) = decide ((ps.length : Int) ≤ 20) := decide_eq_decide.mpr (by omega)
                      rw [e] at q
                      exact q
                    · rw [decide_eq_false (by omega)] at q
                      exact q
              · refine g_ite (fun z => absurd (by rw [List.length_cons, lr] at z; omega) l1) (fun _ => ?_)
                rw [ndW_many_no cm (fun ps e => l1 (by rw [e]; rfl))] at q
                exact q
            rw [decide_eq_false c3]
            walk_at "go"
            refine use_eqW (.str wd) sh0 hm ok_either ?_
            rw [ew]
            by_cases c4 : wd = "either"
            · rw [decide_eq_true c4]
              have cm : wd = "row" ∨ wd = "either" := .inr c4
              walk_at "go"
              refine g_len (.inr (SqT.of ha)) ?_
              walk_at "go"
              by_cases l1 : rest.length = 1
              · match rest, vr, hr', l1, sh with
                | [a], [va], .cons h1 .nil, _, sh =>
                  refine g_ite (fun _ => ?_) (fun z => absurd rfl z)
                  walk_at "go"
                  refine g_ixT (SqT.of ha) rfl ?_
                  walk_at "go"
                  refine use_isT h1 ?_
                  have no : isTup a = false → Q (.bl false) H := fun hT => by
                    rw [ndW_many_no cm (fun ps e => by cases e; cases hT)] at q
                    exact q
                  cases h1 with
                  | int i =>
                    walk_at "go"
                    exact no rfl
                  | str x =>
                    walk_at "go"
                    exact no rfl
                  | @tup a1 us ps g1 g2 =>
                    walk_at "go"
                    refine g_ixT (SqT.of ha) rfl ?_
                    walk_at "go"
                    refine g_len (.inr (SqT.of g1)) ?_
                    walk_at "go"
                    rw [g2.len]
                    rw [ndW_many cm, hfN_if rfl] at q
                    refine g_ite (fun z1 => ?_) (fun z1 => ?_)
                    · walk_at "go"
                      have e : decide (1 ≤ ps.length ∧ ps.length ≤ 20) = decide ((ps.length : Int) ≤ 20) := decide_eq_decide.mpr (by omega)
                      rw [e] at q
                      exact q
                    · rw [decide_eq_false (by omega)] at q
                      exact q
              · refine g_ite (fun z => absurd (by rw [List.length_cons, lr] at z; omega) l1) (fun _ => ?_)
                rw [ndW_many_no cm (fun ps e => l1 (by rw [e]; rfl))] at q
                exact q
            rw [decide_eq_false c4]
            walk_at "go"
            refine use_eqW (.str wd) sh0 hm ok_loop ?_
            rw [ew]
            by_cases c5 : wd = "loop"
            · rw [decide_eq_true c5]
              walk_at "go"
              refine g_len (.inr (SqT.of ha)) ?_
              walk_at "go"
              by_cases l3 : rest.length = 3
              · match rest, vr, hr', l3 with
                | [a, b, c], _, .cons h1 (.cons h2 (.cons h3 .nil)), _ =>
                  refine g_ite (fun _ => ?_) (fun z => absurd rfl z)
                  walk_at "go"
                  refine g_ixT (SqT.of ha) rfl ?_
                  walk_at "go"
                  refine g_ixT (SqT.of ha) rfl ?_
                  walk_at "go"
                  refine ⟨_, _, a, b, 9, rfl, h1, h2, ?_⟩
                  rw [c5, ndW_loop, hfN_if rfl] at q
                  rw [show decide (rgD 9 a b = true) = rgD 9 a b by cases rgD 9 a b <;> rfl] at q
                  exact q
              · refine g_ite (fun z => absurd (by rw [List.length_cons, lr] at z; omega) l3) (fun _ => ?_)
                rw [c5, ndW_loop_no l3] at q
                exact q
            rw [decide_eq_false c5]
            walk_at "go"
            rw [ndW_no c1 c2 c3 c4 c5] at q
            exact q
end
end K02R
namespace K02R
open PySem PySem.Spec PyProof.Rows L2 Wd K02
local macro_rules | `(tactic| walk_at "gs") => `(tactic| repeat (first
  | with_reducible refine Wd.g_seq ?_
  | ((with_reducible show L2.Ends.nx _ _ _); (with_reducible refine Wd.g_nx ?_))
  | with_reducible refine Wd.g_asg ?_
  | ((with_reducible refine' Wd.g_var ?h1 ?_); (case h1 => exact rfl))
  | with_reducible refine Wd.g_c ?_
  | with_reducible refine Wd.g_op ?_
  | with_reducible refine Wd.g_un ?_
  | with_reducible refine Wd.g_I0 ?_
  | with_reducible refine Wd.g_U ?_
  | with_reducible refine Wd.g_eqI ?_
  | with_reducible refine Wd.g_neI ?_
  | with_reducible refine Wd.g_eqS ?_
  | with_reducible refine Wd.g_neS ?_
  | with_reducible refine Wd.g_eqB ?_
  | with_reducible refine Wd.g_neB ?_
  | with_reducible refine Wd.g_isN ?_
  | with_reducible refine Wd.g_notN ?_
  | with_reducible refine Wd.g_lc ?_
  | with_reducible refine Wd.g_yes ?_
  | with_reducible refine Wd.g_test ?_
  | with_reducible refine Wd.g_tB ?_
  | with_reducible refine Wd.g_bl ?_
  | with_reducible refine Wd.g_blI ?_
  | with_reducible refine Wd.g_and ?_
  | with_reducible refine Wd.g_or ?_
  | with_reducible refine Wd.g_not ?_
  | with_reducible refine Wd.g_andV ?_
  | with_reducible refine Wd.g_orV ?_
  | with_reducible refine Wd.g_notV ?_
  | with_reducible refine Wd.g_if ?_
  | with_reducible refine Wd.g_chain ?_
  | with_reducible refine Wd.g_chain3 ?_
  | with_reducible refine Wd.g_nil ?_
  | with_reducible refine Wd.g_cons ?_
  | with_reducible refine Wd.g_tup ?_
  | with_reducible refine Wd.g_lst ?_
  | with_reducible refine Wd.g_CB ?_
  | with_reducible refine Wd.g_call ?_
  | with_reducible refine Wd.g_callS ?_
  | with_reducible refine Wd.g_bm ?_
  | with_reducible refine Wd.g_bm0 ?_
  | with_reducible refine Wd.g_sl ?_
  | with_reducible refine Wd.g_part ?_
  | with_reducible refine Wd.g_part1 ?_
  | with_reducible refine Wd.g_noPart ?_
  | with_reducible refine Wd.g_next ?_
  | with_reducible refine Wd.g_name ?_
  | with_reducible refine Wd.g_sub ?_
  | with_reducible refine Wd.g_gnil ?_
  | with_reducible refine Wd.g_gcons ?_
  | with_reducible refine Wd.g_drop ?_
  | with_reducible refine Wd.g_ret ?_
  | with_reducible refine Wd.g_retN ?_
  | with_reducible refine Wd.g_brk ?_
  | with_reducible refine Wd.g_cont ?_
  | ((with_reducible show L2.Ends.bk _ _ _); (with_reducible refine Wd.g_bk ?_))
  | ((with_reducible show L2.Ends.ct _ _ _); (with_reducible refine Wd.g_ct ?_))
  | ((with_reducible show L2.Ends.rt _ _ _); (with_reducible refine Wd.g_rt ?_))
  | with_reducible refine Wd.g_for ?_
  | with_reducible refine Wd.g_rng1 ?_
  | with_reducible refine Wd.g_rng2 ?_
  | with_reducible refine Wd.g_iList ?_
  | with_reducible refine Wd.g_iTup ?_
  | ((with_reducible refine Wd.g_fit ?h1 ?_); (case h1 => exact rfl))
  | with_reducible refine Wd.g_max2 ?_
  | with_reducible refine Wd.g_min2 ?_
  | with_reducible refine Wd.g_int1B ?_
  | with_reducible refine L2.iteT ?_
  | with_reducible refine L2.iteF ?_
  | ((with_reducible refine Wd.g_itT ?h1 ?_); (case h1 => exact rfl))
  | ((with_reducible refine Wd.g_itF ?h1 ?_); (case h1 => exact rfl))))
/-- the refusals BadPlan and BadWindow -/
structure TxtZ (K : PySem.W.Frag) (mg : Str → Option Value) (CP CW : Addr) : Prop extends TxtQ K mg where
  g_BadPlan : mg "BadPlan" = some (.ref CP)
  x_BadPlan : PySem.W.excIn K CP [.type "ValueError", .type "Exception", .type "BaseException", .type "object"] "ValueError.__new__" = true
  k_BadPlan : PySem.W.keepIn K (.ref CP) = true
  b_BadPlan : PySem.W.subIn K (.ref CP) (.type "BaseException") = some true
  t_BadPlan : PySem.W.typeIn K (.ref CP) = some (.type "type")
  g_BadWindow : mg "BadWindow" = some (.ref CW)
  x_BadWindow : PySem.W.excIn K CW [.type "ValueError", .type "Exception", .type "BaseException", .type "object"] "ValueError.__new__" = true
  k_BadWindow : PySem.W.keepIn K (.ref CW) = true
  b_BadWindow : PySem.W.subIn K (.ref CW) (.type "BaseException") = some true
  t_BadWindow : PySem.W.typeIn K (.ref CW) = some (.type "type")
def kidD (d : PyData) : List PyData := match nd d with
  | .many _ ds => ds
  | .loop c => [c]
  | _ => []
def lpD (d : PyData) : Nat := match nd d with
  | .loop _ => 1
  | _ => 0
theorem kid_sh {m : Nat} {d x : PyData} (h : Sh m d) (hx : x ∈ kidD d) : Sh m x := by
  unfold kidD at hx
  split at hx
  · rename_i e ds hn
    obtain ⟨rfl, _⟩ := nd_many hn
    obtain ⟨m1, rfl, h1⟩ := h.in (List.mem_cons_of_mem _ List.mem_cons_self)
    obtain ⟨m2, rfl, h2⟩ := h1.in hx
    exact h2.up.up
  · rename_i c hn
    obtain ⟨i, j, rfl, _⟩ := nd_loop hn
    rw [List.mem_singleton] at hx
    subst hx
    obtain ⟨m1, rfl, h1⟩ := h.in (List.mem_cons_of_mem _ (List.mem_cons_of_mem _ (List.mem_cons_of_mem _ List.mem_cons_self)))
    exact h1.up
  · cases hx
theorem kid_len {d : PyData} : (kidD d).length ≤ 20 := by
  unfold kidD
  split
  · rename_i e ds hn
    exact (nd_many hn).2.2
  · exact (by show 1 ≤ 20; decide)
  · exact Nat.zero_le _
theorem lk_bad {n l : Nat} {d : PyData} (h : hfN (nd d) = false) : lk n l d = 100 := by
  cases n with
  | zero => rfl
  | succ n =>
    rw [lk]
    cases hn : nd d with
    | bad => rfl
    | _ => rw [hn] at h; cases h
theorem lk_two {n : Nat} {d : PyData} (h : lpD d = 1) : lk n 2 d = 100 := by
  cases n with
  | zero => rfl
  | succ n =>
    unfold lpD at h
    rw [lk]
    split at h
    · rename_i c hn
      rw [hn]
      exact if_pos rfl
    · cases h
theorem lk_kids {n l : Nat} {d : PyData} (h : hfN (nd d) = true) (hl : l + lpD d ≤ 2) : lk (n + 1) l d = 1 + ((kidD d).map (lk n (l + lpD d))).sum := by
  rw [lk]
  unfold lpD at hl ⊢
  unfold kidD
  cases hn : nd d with
  | bad => rw [hn] at h; cases h
  | pat => rfl
  | work => rfl
  | many e ds => rfl
  | loop c =>
    rw [hn] at hl
    have hl' : l + 1 ≤ 2 := hl
    show (if l = 2 then 100 else 1 + lk n (l + 1) c) = 1 + (lk n (l + 1) c + 0)
    rw [if_neg (by omega)]; rfl
theorem form_word {d : PyData} (h : hfN (nd d) = true) : ∃ w rest, d = .tuple (.str w :: rest) ∧ (w = "loop" → lpD d = 1) ∧ (w ≠ "loop" → lpD d = 0) := by
  unfold lpD
  cases hn : nd d with
  | bad => rw [hn] at h; cases h
  | pat => exact ⟨"pat", [], nd_pat hn, fun z => absurd z (by decide), fun _ => rfl⟩
  | work =>
    obtain ⟨i, j, rfl, _⟩ := nd_work hn
    exact ⟨"work", _, rfl, fun z => absurd z (by decide), fun _ => rfl⟩
  | many e ds =>
    obtain ⟨rfl, _⟩ := nd_many hn
    exact ⟨_, _, rfl, fun z => absurd z (by cases e <;> decide), fun _ => rfl⟩
  | loop c =>
    obtain ⟨i, j, rfl, _⟩ := nd_loop hn
    exact ⟨"loop", _, rfl, fun _ => rfl, fun z => absurd rfl z⟩
/-- what waits: so many tuples in all -/
inductive Wq (H : Hp) : List V → Nat → Prop
  | nil : Wq H [] 0
  | snoc {vs : List V} {s : Nat} {t : Addr} {v : V} {d : PyData} {deep loops : Int} {n l m : Nat} : Wq H vs s → H t = some (.tup [v, .int deep, .int loops]) → DA H v d → Sh m d → m ≤ 64 → deep + n = 7 → loops = l → l ≤ 2 → Wq H (vs ++ [.ref t]) (s + lk n l d)
theorem Wq.keep {H H' : Hp} (e : KeepT H H') {vs : List V} {n : Nat} (h : Wq H vs n) : Wq H' vs n := by
  induction h with
  | nil => exact .nil
  | snoc _ h1 h2 h3 h4 h5 h6 h7 ih => exact .snoc ih (e _ _ h1) (DA_keep e _ _ h2) h3 h4 h5 h6 h7
theorem Wq.inv {H : Hp} {xs : List V} {s : Nat} (h : Wq H xs s) : (xs = [] ∧ s = 0) ∨ ∃ (vs : List V) (s' : Nat) (t : Addr) (v : V) (d : PyData) (deep loops : Int) (n l m : Nat), xs = vs ++ [.ref t] ∧ s = s' + lk n l d ∧ Wq H vs s' ∧ H t = some (.tup [v, .int deep, .int loops]) ∧ DA H v d ∧ Sh m d ∧ m ≤ 64 ∧ deep + n = 7 ∧ loops = l ∧ l ≤ 2 := by
  cases h with
  | nil => exact .inl ⟨rfl, rfl⟩
  | snoc h1 h2 h3 h4 h5 h6 h7 h8 => exact .inr ⟨_, _, _, _, _, _, _, _, _, _, rfl, rfl, h1, h2, h3, h4, h5, h6, h7, h8⟩
theorem sum_take {α : Type} (f : α → Nat) {l : List α} {i : Nat} {x : α} (h : l[i]? = some x) : ((l.take (i + 1)).map f).sum = ((l.take i).map f).sum + f x := by
  rw [List.take_add_one, h, List.map_append, List.sum_append]
  show _ + (f x + 0) = _
  rw [Nat.add_zero]
section
variable {P : Program} {w : World} {K : PySem.W.Frag} {mg : Str → Option Value} {base : Heap} {CP CW : Addr}
theorem sc_plans_in : FnScope ["plan"] ["plan"] (C8.fnScope s_plans_in) := C8.fnScope_by (by decide +kernel)
def sp_kidsD (K : PySem.W.Frag) : Sp := fun vs H Q _ => ∃ (v : V) (d : PyData), vs = [v] ∧ DA H v d ∧ hfN (nd d) = true ∧ ∀ H' t us, Same H H' → H' t = some (.tup us) → DAs H' us (kidD d) → Q (.ref t) H'
theorem ok_kidsD (T : TxtP K mg) {f : Addr} {fd : FuncData} (D : C8.Def K mg "plans_in" s_plans_in f fd) (b : Binds K fd ["plan"] []) : C8.Cal P w K mg base 1 "plans_in" (sp_kidsD K) [] := by
  refine C8.cal0 D b .nil sc_plans_in (fun vs H Q E h => ?_) fun cdv A outer s H vs Q E hr h => ?_
  · obtain ⟨v, d, rfl, _⟩ := h; rfl
  · obtain ⟨v, d, rfl, hd, hf, q⟩ := h
    have nd := sc_plans_in.nd
    refine ⟨_, (pss_cons (ps_if (PW.pt (pw_or (pt_cmpR op_eq (pe_ix (r := rIxT K) ix_tup (pv 0) pe_int (fun _ _ => rfl)) pe_str (nomark _)) (pw_or1 (pt_cmpR op_eq (pe_ix (r := rIxT K) ix_tup (pv 0) pe_int (fun _ _ => rfl)) pe_str (nomark _))))) (pss_one (ps_ret (pe_ix (r := rIxT K) ix_tup (pv 0) pe_int (fun _ _ => rfl)))) pss_nil)
      (pss_cons (ps_if (pt_cmpR op_eq (pe_ix (r := rIxT K) ix_tup (pv 0) pe_int (fun _ _ => rfl)) pe_str (nomark _)) (pss_one (ps_ret (pe_tup (pa_cons (pe_ix (r := rIxT K) ix_tup (pv 0) pe_int (fun _ _ => rfl)) pa_nil)))) pss_nil)
      (pss_one (ps_ret (pe_tup pa_nil))))), ?_⟩
    unfold kidD at q
    cases hn : K02R.nd d with
    | bad => rw [hn] at hf; cases hf
    | pat =>
      rw [hn] at q
      have := nd_pat hn
      subst this
      cases hd with
      | tup ha hs =>
        cases hs with
        | cons h0 hr2 =>
          cases h0; cases hr2
          walk_at "go"
          refine g_ixT (SqT.of ha) rfl ?_
          walk_at "go"
          refine g_ixT (SqT.of ha) rfl ?_
          walk_at "go"
          refine g_ixT (SqT.of ha) rfl ?_
          walk_at "go"
          intro t ht
          exact q _ t [] (same_new ht) upd_same .nil
    | work =>
      rw [hn] at q
      obtain ⟨i, j, rfl, _⟩ := nd_work hn
      cases hd with
      | tup ha hs =>
        cases hs with
        | cons h0 hr2 =>
          cases h0
          walk_at "go"
          refine g_ixT (SqT.of ha) (at_of (j := 0) rfl rfl) ?_
          walk_at "go"
          refine g_ixT (SqT.of ha) (at_of (j := 0) rfl rfl) ?_
          walk_at "go"
          refine g_ixT (SqT.of ha) (at_of (j := 0) rfl rfl) ?_
          walk_at "go"
          intro t ht
          exact q _ t [] (same_new ht) upd_same .nil
    | many e ps =>
      rw [hn] at q
      obtain ⟨rfl, _⟩ := nd_many hn
      cases hd with
      | tup ha hs =>
        cases hs with
        | cons h0 hr2 =>
          cases hr2 with
          | cons h1 h2 =>
            cases h2
            cases h1 with
            | tup hb hps =>
              cases e with
              | false =>
                cases h0
                walk_at "go"
                refine g_ixT (SqT.of ha) rfl ?_
                walk_at "go"
                refine g_ixT (SqT.of ha) rfl ?_
                walk_at "go"
                exact q _ _ _ (fun _ _ h => h) hb hps
              | true =>
                cases h0
                walk_at "go"
                refine g_ixT (SqT.of ha) rfl ?_
                walk_at "go"
                refine g_ixT (SqT.of ha) rfl ?_
                walk_at "go"
                refine g_ixT (SqT.of ha) rfl ?_
                walk_at "go"
                exact q _ _ _ (fun _ _ h => h) hb hps
    | loop c =>
      rw [hn] at q
      obtain ⟨i, j, rfl, _⟩ := nd_loop hn
      cases hd with
      | tup ha hs =>
        cases hs with
        | cons h0 hr2 =>
          cases h0
          cases hr2 with
          | cons h1 h2 =>
            cases h1
            cases h2 with
            | cons h3 h4 =>
              cases h3
              cases h4 with
              | cons h5 h6 =>
                cases h6
                walk_at "go"
                refine g_ixT (SqT.of ha) rfl ?_
                walk_at "go"
                refine g_ixT (SqT.of ha) rfl ?_
                walk_at "go"
                refine g_ixT (SqT.of ha) rfl ?_
                walk_at "go"
                refine g_ixT (SqT.of ha) rfl ?_
                walk_at "go"
                intro t ht
                exact q _ t _ (same_new ht) upd_same (.cons (DA_keep (keepT_new ht) _ _ h5) .nil)

theorem sc_check_plan : FnScope ["plan", "waiting", "many", "part", "deep", "loops", "inner"] ["plan"] (C8.fnScope s_check_plan) := C8.fnScope_by (by decide +kernel)
/-- thirty tuples at the most are plans, or it is refused -/
def sp_checkD (CP : Addr) : Sp := fun vs H Q E => ∃ (v : V) (d : PyData) (m : Nat), vs = [v] ∧ DA H v d ∧ Sh m d ∧ m ≤ 64 ∧ (lk 6 0 d ≤ 30 → ∀ H', Same H H' → Q .non H') ∧ (30 < lk 6 0 d → ∀ H', Same H H' → E (.ref CP) none H')
theorem ok_checkD (T : TxtZ K mg CP CW) {f : Addr} {fd : FuncData} (D : C8.Def K mg "check_plan" s_check_plan f fd) (b : Binds K fd ["plan"] []) (g_has_form : C8.Cal P w K mg base 3 "has_form" sp_formD []) (g_plans_in : C8.Cal P w K mg base 1 "plans_in" (sp_kidsD K) []) : CalX P w K mg base 4 "check_plan" (sp_checkD CP) := by
  refine calX D b sc_check_plan (fun vs H Q E h => ?_) fun cdv A outer s H vs Q E hr h => ?_
  · obtain ⟨v, d, m, rfl, _⟩ := h; rfl
  · obtain ⟨v0, d0, m0, rfl, hd0, sh0, hm0, q1, q2⟩ := h
    have nd := sc_check_plan.nd
    obtain ⟨_, c_MOST_PLANS⟩ := T.k_MOST_PLANS
    obtain ⟨_, c_MOST_DEEP⟩ := T.k_MOST_DEEP
    obtain ⟨_, c_MOST_LOOPS⟩ := T.k_MOST_LOOPS
    refine ⟨_, (pss_cons (ps_set (i := 1) nd rfl (Or.inl rfl) (pe_lst (pa_cons (pe_tup (pa_cons (pv 0) (pa_cons pe_int (pa_cons pe_int pa_nil)))) pa_nil)))
      (pss_cons (ps_set (i := 2) nd rfl (Or.inl rfl) pe_int)
      (pss_one (ps_while (passes_of rfl) (pt_truth (pv 1) (by intro _; rfl)) (pss_cons (ps_asg (pe_bm0K (K := K) rfl PySem.F.plainAttrs_list PySem.F.slot_list_pop PySem.F.type_list_pop mt_pop (pv 1)) (pg_tup rfl (pgs_cons (pg_name (i := 3) nd rfl (Or.inl rfl)) (pgs_cons (pg_name (i := 4) nd rfl (Or.inl rfl)) (pgs_cons (pg_name (i := 5) nd rfl (Or.inl rfl)) pgs_nil)))))
      (pss_cons (ps_aug (i := 2) nd rfl (Or.inl rfl) pe_int ip_add)
      (pss_cons (ps_if (PW.pt (pw_or (pt_cmpR op_gt (pv 2) (pe_glob (v := .int 30) rfl c_MOST_PLANS ⟨_, rfl⟩) (nomark _)) (pw_or (pt_cmpR op_gt (pv 4) (pe_glob (v := .int 6) rfl c_MOST_DEEP ⟨_, rfl⟩) (nomark _)) (pw_or1 (pt_not (pt_val (C8.pe_c g_has_form hr (by first | decide | exact Nat.le_refl _ | omega) (by rfl) (pa_cons (pv 3) pa_nil)))))))) (pss_one (ps_raise rfl (takes_of rfl rfl rfl rfl) (pmk_own PySem.F.excBase_ValueError T.x_BadPlan T.g_BadPlan T.k_BadPlan (raises_own T.b_BadPlan T.t_BadPlan) (by rfl)))) pss_nil)
      (pss_cons (ps_if (pt_cmpR op_eq (pe_ix (r := rIxT K) ix_tup (pv 3) pe_int (fun _ _ => rfl)) pe_str (nomark _)) (pss_one (ps_aug (i := 5) nd rfl (Or.inl rfl) pe_int ip_add)) pss_nil)
      (pss_cons (ps_if (pt_cmpR op_gt (pv 5) (pe_glob (v := .int 2) rfl c_MOST_LOOPS ⟨_, rfl⟩) (nomark _)) (pss_one (ps_raise rfl (takes_of rfl rfl rfl rfl) (pmk_own PySem.F.excBase_ValueError T.x_BadPlan T.g_BadPlan T.k_BadPlan (raises_own T.b_BadPlan T.t_BadPlan) (by rfl)))) pss_nil)
      (pss_one (ps_for (passes_of rfl) rfl (pi_tup (C8.pe_c g_plans_in hr (by first | decide | exact Nat.le_refl _ | omega) (by rfl) (pa_cons (pv 3) pa_nil))) (pg_name (i := 6) nd rfl (Or.inl rfl)) (pss_one (ps_expr (pe_bmK (K := K) rfl PySem.F.plainAttrs_list PySem.F.slot_list_append PySem.F.type_list_append mt_append (pv 1) (pa_cons (pe_tup (pa_cons (pv 6) (pa_cons (pe_op op_add (pv 4) pe_int) (pa_cons (pv 5) pa_nil)))) pa_nil))))))))))))))), ?_⟩
    walk_at "go"
    intro t ht
    walk_at "go"
    intro W hW
    walk_at "go"
    have hW0 : H W = none := by
      by_cases e : W = t
      · rw [e]; exact ht
      · rwa [upd_ne e] at hW
    have sm0 : Same H (upd (upd H t (.tup [v0, .int 1, .int 0])) W (.lst [.ref t])) := (same_new ht).trans (same_new hW)
    have wq0 : Wq (upd (upd H t (.tup [v0, .int 1, .int 0])) W (.lst [.ref t])) [.ref t] (0 + lk 6 0 d0) := .snoc (vs := []) .nil (same_new hW _ _ upd_same) (DA_keep (keepT_same sm0) _ _ hd0) sh0 hm0 (by decide) rfl (by decide)
    rw [Nat.zero_add] at wq0
    generalize lk 6 0 d0 = tot at q1 q2 wq0
    refine w_loop (fun m σ H' => ∃ (xs : List V) (many s : Nat) (v3 v4 v5 v6 : Option V), σ = [some v0, some (.ref W), some (.int many), v3, v4, v5, v6] ∧ Same H H' ∧ H' W = some (.lst xs) ∧ Wq H' xs s ∧ xs.length ≤ 1 + 20 * many ∧ many ≤ 30 ∧ (tot ≤ 30 ↔ many + s ≤ 30) ∧ m + many = 31) 31 ?_ ?_
    · exact ⟨_, 0, tot, _, _, _, _, rfl, sm0, upd_same, wq0, (by show 1 ≤ 1 + 20 * 0; decide), by decide, by rw [Nat.zero_add], rfl⟩
    · clear wq0 sm0
      rintro m σ H' ⟨xs, many, s, v3, v4, v5, v6, rfl, sm, hWx, wq, lx, l30, iff, em⟩
      walk_at "go"
      rcases wq.inv with ⟨rfl, rfl⟩ | ⟨vs, s', tt0, v, d, deep, loops, n, l, md, rfl, rfl, wq, hE, dv, shd, hmd, h6, rfl, h7⟩
      · refine ⟨false, .inl ⟨[], SqL.of hWx, rfl⟩, ?_⟩
        walk_at "go"
        exact q1 (iff.mpr l30) _ sm
      refine ⟨true, .inl ⟨_, SqL.of hWx, by cases vs <;> rfl⟩, ?_⟩
      refine L2.iteT ?_
      refine ⟨fun σ' H'' => ∃ m', m' < m ∧ ∃ (xs : List V) (many s : Nat) (v3 v4 v5 v6 : Option V), σ' = [some v0, some (.ref W), some (.int many), v3, v4, v5, v6] ∧ Same H H'' ∧ H'' W = some (.lst xs) ∧ Wq H'' xs s ∧ xs.length ≤ 1 + 20 * many ∧ many ≤ 30 ∧ (tot ≤ 30 ↔ many + s ≤ 30) ∧ m' + many = 31, fun _ _ h => h, ?_⟩
      rw [List.length_append, List.length_singleton] at lx
      have lp := lk_pos n l d
      walk_at "go"
      refine g_tyL hWx ?_
      refine g_pop hWx (y := .ref tt0) (by rw [List.length_append, List.length_singleton, Nat.add_sub_cancel, List.getElem?_append_right (Nat.le_refl _), Nat.sub_self]; rfl) ?_
      rw [List.dropLast_concat]
      have k1 : KeepT H' (upd H' W (.lst vs)) := keepT_lst hWx
      have sm1 : Same H (upd H' W (.lst vs)) := Wd.Same.mut sm hW0
      have hW1 : upd H' W (.lst vs) W = some (.lst vs) := upd_same
      have wq1 := wq.keep k1
      have dv1 := DA_keep k1 _ _ dv
      refine g_gtup (SqT.of (k1 _ _ hE)) rfl ?_
      generalize upd H' W (.lst vs) = H1 at sm1 hW1 wq1 dv1
      clear k1 hE wq dv hWx sm
      walk_at "go"
      refine ⟨_, rfl, ?_⟩
      walk_at "go"
      refine ⟨_, _, rfl, rfl, ?_⟩
      walk_at "go"
      have bad : 30 < many + (s' + lk n l d) → 30 < tot := fun z => Nat.lt_of_not_le fun y => by have := iff.mp y; omega
      refine g_ite (fun hx => ?_) (fun hx => ?_)
      · walk_at "go"
        exact q2 (bad (by have hx' : (30 : Int) < many + 1 := hx; omega)) _ sm1
      have hx' : ¬ (30 : Int) < many + 1 := hx
      walk_at "go"
      refine g_ite (fun hy => ?_) (fun hy => ?_)
      · walk_at "go"
        have hy' : (6 : Int) < deep := hy
        have n0 : n = 0 := by omega
        subst n0
        exact q2 (bad (by rw [lk]; omega)) _ sm1
      have hy' : ¬ (6 : Int) < deep := hy
      obtain ⟨n, rfl⟩ : ∃ n', n = n' + 1 := ⟨n - 1, by omega⟩
      walk_at "go"
      refine ⟨v, d, md, rfl, dv1, shd, hmd, ?_⟩
      cases hf : hfN (K02R.nd d) with
      | false =>
        walk_at "go"
        exact q2 (bad (by rw [lk_bad hf]; omega)) _ sm1
      | true =>
        obtain ⟨wd, rest, ed, w1, w2⟩ := form_word hf
        have atW : ∃ a xv, v = .ref a ∧ H1 a = some (.tup (.str wd :: xv)) := by
          rw [ed] at dv1
          cases dv1 with
          | tup g1 g2 =>
            cases g2 with
            | cons g3 g4 => cases g3; exact ⟨_, _, rfl, g1⟩
        obtain ⟨av, xv, rfl, hav⟩ := atW
        walk_at "gs"
        refine g_join (fun σ H' => H' = H1 ∧ ∃ v6 : Option V, σ = [some v0, some (.ref W), some (.int ((many : Int) + 1)), some (.ref av), some (.int deep), some (.int ((l + lpD d : Nat) : Int)), v6]) ?_ ?_
        case refine_2 =>
          intro N' hk
          walk_at "go"
          refine g_ixT (v := .str wd) (SqT.of hav) (at_of (j := 0) rfl rfl) ?_
          walk_at "go"
          refine g_ite (fun hw => ?_) (fun hw => ?_)
          · walk_at "go"
            refine ⟨_, rfl, ?_⟩
            walk_at "go"
            refine ⟨_, _, rfl, rfl, ?_⟩
            refine hk _ _ ⟨rfl, v6, ?_⟩
            rw [w1 hw]; rfl
          · walk_at "go"
            refine hk _ _ ⟨rfl, v6, ?_⟩
            rw [w2 hw]; rfl
        rintro σ H2 ⟨rfl, v6, rfl⟩
        walk_at "go"
        refine g_ite (fun hz => ?_) (fun hz => ?_)
        · walk_at "go"
          have hz' : (2 : Int) < ((l + lpD d : Nat) : Int) := hz
          have l1 : lpD d ≤ 1 := by unfold lpD; split <;> decide
          have e1 : lpD d = 1 := by omega
          have e2 : l = 2 := by omega
          subst e2
          exact q2 (bad (by rw [lk_two e1]; omega)) _ sm1
        have hz' : ¬ (2 : Int) < ((l + lpD d : Nat) : Int) := hz
        rw [lk_kids hf (by omega)] at iff
        have sk := fun x hx => kid_sh (x := x) shd hx
        have kl := kid_len (d := d)
        generalize hl2 : l + lpD d = l2 at iff hz'
        walk_at "go"
        refine ⟨_, d, rfl, dv1, hf, fun H4 tt us s4 hT pk => ?_⟩
        generalize kidD d = ks at iff sk kl pk
        have hW4 := s4 _ _ hW1
        have sm4 : Same H H4 := sm1.trans s4
        refine w_tup (xs := us) (fun i σ H' => ∃ (v6 : Option V) (xs : List V), σ = [some v0, some (.ref W), some (.int ((many : Int) + 1)), some (.ref av), some (.int deep), some (.int (l2 : Nat)), v6] ∧ Same H H' ∧ H' tt = some (.tup us) ∧ DAs H' us ks ∧ H' W = some (.lst xs) ∧ Wq H' xs (s' + ((ks.take i).map (lk n l2)).sum) ∧ xs.length ≤ vs.length + i) ?_ ?_ ?_ ?_
        · exact ⟨_, vs, rfl, sm4, hT, pk, hW4, by simpa only [List.take_zero, List.map_nil, List.sum_nil, Nat.add_zero] using wq1.keep (keepT_same s4), Nat.le_refl _⟩
        · rintro i σ H' _ ⟨v6, xs, _, _, hT', _⟩
          exact SqT.of hT'
        · rintro i u σ H' hu ⟨v6, xs, rfl, sm5, hT5, pk5, hW5, wq5, lx5⟩
          obtain ⟨x1, hx1, pu⟩ := pk5.at' hu
          have ilt : i < ks.length := (List.getElem?_eq_some_iff.mp hx1).1
          walk_at "go"
          refine g_tyL hW5 ?_
          walk_at "go"
          intro e he
          have s6 := same_new (o := .tup [u, .int (deep + 1), .int (l2 : Nat)]) he
          walk_at "go"
          refine g_append (s6 _ _ hW5) (by omega) ?_
          have k6 : KeepT H' (upd (upd H' e (.tup [u, .int (deep + 1), .int (l2 : Nat)])) W (.lst (xs ++ [.ref e]))) := (keepT_same s6).trans (keepT_lst (s6 _ _ hW5))
          walk_at "go"
          refine ⟨_, xs ++ [.ref e], rfl, Wd.Same.mut (sm5.trans s6) hW0, k6 _ _ hT5, DAs_keep k6 _ _ pk5, upd_same, ?_, by rw [List.length_append, List.length_singleton]; omega⟩
          rw [sum_take _ hx1, ← Nat.add_assoc]
          exact .snoc (wq5.keep k6) (keepT_lst (s6 _ _ hW5) _ _ upd_same) (DA_keep k6 _ _ pu) (sk _ (List.mem_of_getElem? hx1)) hmd (by omega) rfl (by omega)
        · rintro σ H' ⟨v6, xs, rfl, sm5, hT5, pk5, hW5, wq5, lx5⟩
          rw [pk5.len, List.take_length] at wq5
          have ul := pk5.len
          walk_at "go"
          exact ⟨m - 1, by omega, xs, many + 1, _, _, _, _, _, rfl, sm5, hW5, wq5, by omega, by omega, iff.trans (by omega), by omega⟩
end
end K02R
namespace K02R
open PySem PySem.Spec PyProof.Rows L2 Wd K02
local macro_rules | `(tactic| walk_at "gs") => `(tactic| repeat (first
  | with_reducible refine Wd.g_seq ?_
  | ((with_reducible show L2.Ends.nx _ _ _); (with_reducible refine Wd.g_nx ?_))
  | with_reducible refine Wd.g_asg ?_
  | ((with_reducible refine' Wd.g_var ?h1 ?_); (case h1 => exact rfl))
  | with_reducible refine Wd.g_c ?_
  | with_reducible refine Wd.g_op ?_
  | with_reducible refine Wd.g_un ?_
  | with_reducible refine Wd.g_I0 ?_
  | with_reducible refine Wd.g_U ?_
  | with_reducible refine Wd.g_eqI ?_
  | with_reducible refine Wd.g_neI ?_
  | with_reducible refine Wd.g_eqS ?_
  | with_reducible refine Wd.g_neS ?_
  | with_reducible refine Wd.g_eqB ?_
  | with_reducible refine Wd.g_neB ?_
  | with_reducible refine Wd.g_isN ?_
  | with_reducible refine Wd.g_notN ?_
  | with_reducible refine Wd.g_lc ?_
  | with_reducible refine Wd.g_yes ?_
  | with_reducible refine Wd.g_test ?_
  | with_reducible refine Wd.g_tB ?_
  | with_reducible refine Wd.g_bl ?_
  | with_reducible refine Wd.g_blI ?_
  | with_reducible refine Wd.g_and ?_
  | with_reducible refine Wd.g_or ?_
  | with_reducible refine Wd.g_not ?_
  | with_reducible refine Wd.g_andV ?_
  | with_reducible refine Wd.g_orV ?_
  | with_reducible refine Wd.g_notV ?_
  | with_reducible refine Wd.g_if ?_
  | with_reducible refine Wd.g_chain ?_
  | with_reducible refine Wd.g_chain3 ?_
  | with_reducible refine Wd.g_nil ?_
  | with_reducible refine Wd.g_cons ?_
  | with_reducible refine Wd.g_tup ?_
  | with_reducible refine Wd.g_lst ?_
  | with_reducible refine Wd.g_CB ?_
  | with_reducible refine Wd.g_call ?_
  | with_reducible refine Wd.g_callS ?_
  | with_reducible refine Wd.g_bm ?_
  | with_reducible refine Wd.g_bm0 ?_
  | with_reducible refine Wd.g_sl ?_
  | with_reducible refine Wd.g_part ?_
  | with_reducible refine Wd.g_part1 ?_
  | with_reducible refine Wd.g_noPart ?_
  | with_reducible refine Wd.g_next ?_
  | with_reducible refine Wd.g_name ?_
  | with_reducible refine Wd.g_sub ?_
  | with_reducible refine Wd.g_gnil ?_
  | with_reducible refine Wd.g_gcons ?_
  | with_reducible refine Wd.g_drop ?_
  | with_reducible refine Wd.g_ret ?_
  | with_reducible refine Wd.g_retN ?_
  | with_reducible refine Wd.g_brk ?_
  | with_reducible refine Wd.g_cont ?_
  | ((with_reducible show L2.Ends.bk _ _ _); (with_reducible refine Wd.g_bk ?_))
  | ((with_reducible show L2.Ends.ct _ _ _); (with_reducible refine Wd.g_ct ?_))
  | ((with_reducible show L2.Ends.rt _ _ _); (with_reducible refine Wd.g_rt ?_))
  | with_reducible refine Wd.g_for ?_
  | with_reducible refine Wd.g_rng1 ?_
  | with_reducible refine Wd.g_rng2 ?_
  | with_reducible refine Wd.g_iList ?_
  | with_reducible refine Wd.g_iTup ?_
  | ((with_reducible refine Wd.g_fit ?h1 ?_); (case h1 => exact rfl))
  | with_reducible refine Wd.g_max2 ?_
  | with_reducible refine Wd.g_min2 ?_
  | with_reducible refine Wd.g_int1B ?_
  | with_reducible refine L2.iteT ?_
  | with_reducible refine L2.iteF ?_
  | ((with_reducible refine Wd.g_itT ?h1 ?_); (case h1 => exact rfl))
  | ((with_reducible refine Wd.g_itF ?h1 ?_); (case h1 => exact rfl))))
theorem fb_kind (lo hi : Int) : ∀ (ps : List Int) (last : Int), (fb lo hi last ps).2 = ("late" : Str) ∨ (fb lo hi last ps).2 = ("early" : Str)
  | [], last => .inl rfl
  | p :: ps, last => by
    by_cases c1 : p > last + hi
    · rw [fb_late c1]; exact .inl rfl
    · by_cases c2 : p < last + lo
      · rw [fb_early c1 c2]; exact .inr rfl
      · rw [fb_next c1 c2]; exact fb_kind lo hi ps p
def btD (z : Int × Str) : PyData := .tuple [.int z.1, .str z.2]
theorem dp_bt {K : PySem.W.Frag} {H : Hp} {q : Addr} {z : Int × Str} (h : H q = some (.tup [.int z.1, .str z.2])) : Dp K H (.ref q) (btD z) := .tup (SqT.of h) (.cons (.int _) (.cons (.str _) .nil))
def fdD (m : Int) (ds : List Int) (z : Int × Str) : PyData := .tuple [.str "bitten", .int m, .list (ds.map PyData.int), btD z]
theorem fd_shaped (m : Int) (ds : List Int) {z : Int × Str} (h : z.2 = ("late" : Str) ∨ z.2 = ("early" : Str)) : SeqAt.shaped (fdD m ds z) = true := by
  have ok : PyData.strOk z.2 = true := by rcases h with h | h <;> rw [h] <;> decide +kernel
  have ok2 : PyData.strOk ("bitten" : Str) = true := by decide +kernel
  unfold SeqAt.shaped fdD btD
  rw [Bool.and_eq_true]
  refine ⟨by simp only [PyData.canLay0, PyData.canLayAll0, PySem.W.ke_canLayAll0, ok, ok2, Bool.and_true], decide_eq_true ?_⟩
  simp only [PyData.depth, PyData.depthAll, PySem.W.ke_depthAll]
  omega
theorem bt_shaped {z : Int × Str} (h : z.2 = ("late" : Str) ∨ z.2 = ("early" : Str)) : SeqAt.shaped (btD z) = true := by
  have ok : PyData.strOk z.2 = true := by rcases h with h | h <;> rw [h] <;> decide +kernel
  unfold SeqAt.shaped btD
  rw [Bool.and_eq_true]
  refine ⟨by simp only [PyData.canLay0, PyData.canLayAll0, ok, Bool.and_true], decide_eq_true ?_⟩
  simp only [PyData.depth, PyData.depthAll]
  omega
theorem safe_shaped : SeqAt.shaped (.tuple [.str ("safe" : Str)]) = true := by
  have ok : PyData.strOk ("safe" : Str) = true := by decide +kernel
  simp [SeqAt.shaped, PyData.canLay0, PyData.canLayAll0, PyData.depth, PyData.depthAll, ok]
/-- a tuple that can be compared -/
def TupV (K : PySem.W.Frag) (H : Hp) (t : Addr) : Prop := ∃ ds, Dp K H (.ref t) (.tuple ds) ∧ SeqAt.shaped (.tuple ds) = true
theorem tup_eqS {K : PySem.W.Frag} {H : Hp} {t : Addr} {x : Str} {Q : VK} (h : TupV K H t) (hx : PyData.strOk x = true) (q : Q (.bl false) H) : rEqD K (.ref t) (.str x) H Q := by
  obtain ⟨ds, h1, h2⟩ := h
  refine ⟨_, .str x, h1, .str x, h2, str_shaped hx, ?_⟩
  have : PyData.eqv (.tuple ds) (.str x) = false := by simp [PyData.eqv]
  rw [this]; exact q
theorem str_eqS {K : PySem.W.Frag} {H : Hp} {x y : Str} {Q : VK} (hy : PyData.strOk y = true) (hx : PyData.strOk x = true) (q : Q (.bl (decide (y = x))) H) : rEqD K (.str y) (.str x) H Q := by
  refine ⟨.str y, .str x, .str y, .str x, str_shaped hy, str_shaped hx, ?_⟩
  have : PyData.eqv (.str y) (.str x) = decide (y = x) := by by_cases c : y = x <;> simp [PyData.eqv, c]
  rw [this]; exact q
theorem tupV_safe {K : PySem.W.Frag} {H : Hp} {t : Addr} (h : H t = some (.tup [.str "safe"])) : TupV K H t := ⟨_, .tup (SqT.of h) (.cons (.str _) .nil), safe_shaped⟩
theorem tupV_bite {K : PySem.W.Frag} {H : Hp} {t D q : Addr} {m : Int} {ds : List Int} {z : Int × Str} (hk : z.2 = ("late" : Str) ∨ z.2 = ("early" : Str)) (h1 : H t = some (.tup [.str "bitten", .int m, .ref D, .ref q])) (hD : H D = some (.lst (ds.map V.int))) (hq : H q = some (.tup [.int z.1, .str z.2])) : TupV K H t :=
  ⟨_, .tup (SqT.of h1) (.cons (.str _) (.cons (.int _) (.cons (dp_ints (SqL.of hD)) (.cons (dp_bt hq) .nil)))), fd_shaped m ds hk⟩
theorem tupV_run {K : PySem.W.Frag} {H : Hp} {t L : Addr} {n : Int} {ns : List Int} (h1 : H t = some (.tup [.ref L, .int n])) (hL : H L = some (.lst (ns.map V.int))) : TupV K H t := by
  refine ⟨_, .tup (SqT.of h1) (.cons (dp_ints (SqL.of hL)) (.cons (.int _) .nil)), ?_⟩
  unfold SeqAt.shaped
  rw [Bool.and_eq_true]
  refine ⟨by simp only [PyData.canLay0, PyData.canLayAll0, PySem.W.ke_canLayAll0, Bool.and_true], decide_eq_true ?_⟩
  simp only [PyData.depth, PyData.depthAll, PySem.W.ke_depthAll]
  omega
section
variable {P : Program} {w : World} {K : PySem.W.Frag} {mg : Str → Option Value} {base : Heap} {CP CW CB CD fI CWt WP WK WR WE WL CR : Addr}
abbrev s_run_plan : Stmt := top 25
theorem sc_run_plan : FnScope ["plan", "delays", "run"] ["plan", "delays"] (C8.fnScope s_run_plan) := C8.fnScope_by (by decide +kernel)
def sp_runX (CP CB : Addr) : Sp := fun vs H Q E => ∃ (v : V) (d : PyData) (m : Nat) (LA : Addr) (ds : List Int), vs = [v, .ref LA] ∧ DA H v d ∧ Sh m d ∧ m ≤ 64 ∧ H LA = some (.lst (ds.map V.int)) ∧ ds.length < 10 ^ 6 ∧ (30 < lk 6 0 d → ∀ H', Same H H' → E (.ref CP) none H') ∧
  (lk 6 0 d ≤ 30 → (∀ H' z L (ns : List Int) t, Same H H' → H' z = some (.tup [.ref L, .int t]) → H' L = some (.lst (ns.map V.int)) → Q (.ref z) H') ∧ ∀ H' x (n : Nat), Same H H' → H' x = some (.xd [("at", .int n)]) → E (.ref CB) (some x) H')
theorem ok_runX (T : TxtP K mg) (TR : TxtR K CR) (B : TxtB K mg CB CD fI) {fdI : FuncData} (B_init : FnOk P w K mg base C8.CX0 1 fI fdI ["self", "at"] (sp_binit CB)) (B_binds : Binds K fdI ["self", "at"] []) {f : Addr} {fd : FuncData} (D : C8.Def K mg "run_plan" s_run_plan f fd) (b : Binds K fd ["plan", "delays"] []) (g_check_plan : CalX P w K mg base 4 "check_plan" (sp_checkD CP))
    (g_Run : C8.Mak P w K mg base 1 "Run" CR (sp_init CR) []) (m_follow : MetX P w K mg base 9 CR "follow" (sp_follow K CR CB 6)) : CalX P w K mg base 10 "run_plan" (sp_runX CP CB) := by
  refine calX D b sc_run_plan (fun vs H Q E h => ?_) fun cdv A outer s H vs Q E hr h => ?_
  · obtain ⟨v, d, m, LA, ds, rfl, _⟩ := h; rfl
  · obtain ⟨v, d, md, LA, ds, rfl, hd, shd, hmd, hL, hz, q0, qq⟩ := h
    have nd := sc_run_plan.nd
    refine ⟨_, (pss_cons (ps_expr (pe_cX g_check_plan hr (by first | decide | exact Nat.le_refl _ | omega) (by rfl) (fun σ => passAt (takes_of rfl rfl rfl rfl) σ) (pa_cons (pv 0) pa_nil)))
      (pss_cons (ps_set (i := 2) nd rfl (Or.inl rfl) (C8.pe_mk g_Run hr (by first | decide | exact Nat.le_refl _ | omega) (by rfl) (pa_cons (pv 1) pa_nil)))
      (pss_cons (ps_expr (pe_mX m_follow hr (by first | decide | exact Nat.le_refl _ | omega) (fun σ => passAt (takes_of rfl rfl rfl rfl) σ) (pv 2) (pa_cons (pv 0) pa_nil)))
      (pss_cons (ps_if (pt_cmpR op_lt (pe_fld (pv 2) rfl) (pe_callB (r := Wd.rLen K) call_len1 (by rfl) T.n_len PySem.boot_len (pa_cons (pv 1) pa_nil)) (nomark _)) (pss_one (ps_raise rfl (takes_of rfl rfl rfl rfl) (pmk_oex B.T B.iC B.tI B_init (hr.mono (by decide)) B_binds .nil pass0 (by rfl) B.gB (pa_cons (pe_fld (pv 2) rfl) pa_nil)))) pss_nil)
      (pss_one (ps_ret (pe_tup (pa_cons (pe_fld (pv 2) rfl) (pa_cons (pe_fld (pv 2) rfl) pa_nil))))))))), ?_⟩
    walk_at "go"
    refine ⟨v, d, md, rfl, hd, shd, hmd, fun le => ?_, fun gt H' s' => q0 gt H' s'⟩
    obtain ⟨p, hp, ok, hc⟩ := lk_pl 6 0 d v (by decide) hd (by omega)
    obtain ⟨q1, q2⟩ := qq le
    have hc : Wd.cnt p ≤ 30 := by omega
    have ok : okP 5 2 p := ok
    have mb := mp_le p 5 2 ok
    have e100 : (10 : Nat) ^ 2 = 100 := rfl
    rw [e100] at mb
    intro H1 s1
    walk_at "go"
    refine ⟨_, rfl, fun R dx hR hdx ndx => ?_⟩
    have s2 := s1.trans (same_new (o := .own R) hdx)
    have hR2 : upd H1 dx (.own R) R = none := by rw [upd_ne ndx.symm]; exact hR
    have s3 := s2.trans (same_new (o := .ins CR dx []) hR2)
    refine ⟨R, dx, LA, rfl, upd_same, fun H4 PA f4 hPA hR4 hP4 => ⟨rfl, ?_⟩⟩
    have hR0 : H R = none := Wd.Same.back s1 hR
    have hPA0 : H PA = none := Wd.Same.back s3 hPA
    have s4 : Same H H4 := fun a o h => f4 a o (fun z => by rw [z, hR0] at h; cases h) (s3 a o h)
    have sF : ∀ H5, Frm2 R PA H4 H5 → Same H H5 := fun H5 f5 a o h => f5 a o (fun z => by rw [z, hR0] at h; cases h) (fun z => by rw [z, hPA0] at h; cases h) (s4 a o h)
    walk_at "go"
    refine ⟨_, rfl, R, dx, _, rfl, hR4, lk_follow, ?_⟩
    walk_at "go"
    refine ⟨R, dx, LA, PA, 0, 0, v, p, _, ds, [], rfl, PlA_keep (keepT_same s4) _ _ hp, ok, hR4, s4 _ _ hL, (fun z => by rw [z, hPA0] at hL; cases hL), hP4, Nat.zero_le _, hz, by simp only [List.length_nil]; omega, fun u5 e5 H5 t5 ps5 f5 hu5 hR5 hP5 le5 => ?_,
      fun u5 e5 H5 x f5 hx => q2 H5 x u5 (sF H5 f5) hx⟩
    have s5 := sF H5 f5
    walk_at "go"
    refine ⟨_, rfl, R, CR, dx, _, _, rfl, hR5, TR.c, TR.nU, lk_u, ?_⟩
    walk_at "go"
    refine g_len (.inl (SqL.of (s5 _ _ hL))) ?_
    walk_at "go"
    rw [List.length_map]
    refine g_ite (fun h => ?_) (fun h => ?_)
    · have lt : u5 < ds.length := by omega
      walk_at "go"
      refine ⟨_, rfl, R, CR, dx, _, _, rfl, hR5, TR.c, TR.nU, lk_u, ?_⟩
      exact use_bad ⟨by omega, by omega⟩ fun H9 x s9 _ hx => q2 H9 x u5 (s5.trans s9) hx
    · walk_at "go"
      refine ⟨_, rfl, R, CR, dx, _, _, rfl, hR5, TR.c, TR.nP, lk_p, ?_⟩
      walk_at "go"
      refine ⟨_, rfl, R, CR, dx, _, _, rfl, hR5, TR.c, TR.nN, lk_n, ?_⟩
      walk_at "go"
      intro z hz
      exact q1 _ z PA ps5 t5 (s5.trans (same_new hz)) upd_same (same_new hz _ _ hP5)

theorem sc_check_window : FnScope ["window", "low", "high"] ["window"] (C8.fnScope s_check_window) := C8.fnScope_by (by decide +kernel)
def okWi (lo hi : Int) : Prop := 0 ≤ lo ∧ lo ≤ hi ∧ hi ≤ 1000
def sp_windX (K : PySem.W.Frag) (CW : Addr) : Sp := fun vs H Q E => ∃ (W : Addr) (lo hi : Int), vs = [.ref W] ∧ SqT K H W [.int lo, .int hi] ∧ (okWi lo hi → Q .non H) ∧ (¬ okWi lo hi → E (.ref CW) none H)
theorem ok_windX (T : TxtZ K mg CP CW) {f : Addr} {fd : FuncData} (D : C8.Def K mg "check_window" s_check_window f fd) (b : Binds K fd ["window"] []) (g_is_range : C8.Cal P w K mg base 2 "is_range" sp_rangeD []) : CalX P w K mg base 3 "check_window" (sp_windX K CW) := by
  refine calX D b sc_check_window (fun vs H Q E h => ?_) fun cdv A outer s H vs Q E hr h => ?_
  · obtain ⟨W, lo, hi, rfl, _⟩ := h; rfl
  · obtain ⟨W, lo, hi, rfl, hW, q1, q2⟩ := h
    have nd := sc_check_window.nd
    obtain ⟨tg, c_GREATEST_HIGH⟩ := T.c_GREATEST_HIGH
    refine ⟨_, (pss_cons (ps_asg (pv 0) (pg_tup rfl (pgs_cons (pg_name (i := 1) nd rfl (Or.inl rfl)) (pgs_cons (pg_name (i := 2) nd rfl (Or.inl rfl)) pgs_nil))))
      (pss_one (ps_if (pt_not (pt_val (C8.pe_c g_is_range hr (by first | decide | exact Nat.le_refl _ | omega) (by rfl) (pa_cons (pv 1) (pa_cons (pv 2) (pa_cons (pe_glob (v := .int 1000) rfl c_GREATEST_HIGH ⟨_, rfl⟩) pa_nil)))))) (pss_one (ps_raise rfl (takes_of rfl rfl rfl rfl) (pmk_own PySem.F.excBase_ValueError T.x_BadWindow T.g_BadWindow T.k_BadWindow (raises_own T.b_BadWindow T.t_BadWindow) (by rfl)))) pss_nil))), ?_⟩
    walk_at "go"
    refine g_gtup hW rfl ?_
    walk_at "go"
    refine ⟨_, _, .int lo, .int hi, 1000, rfl, .int _, .int _, ?_⟩
    rw [show rgD 1000 (.int lo) (.int hi) = decide (0 ≤ lo ∧ lo ≤ hi ∧ hi ≤ 1000) from rfl]
    walk_at "go"
    refine g_iteN (fun hn => ?_) (fun hy => ?_)
    · walk_at "go"
      exact q2 hn
    · walk_at "go"
      exact q1 hy

theorem sc_judged : FnScope ["window", "plan", "watcher", "goals", "rounds", "delays"] ["window", "plan"] (C8.fnScope s_judged) := C8.fnScope_by (by decide +kernel)
def sp_jdX (K : PySem.W.Frag) (CP CW : Addr) : Sp := fun vs H Q E => ∃ (W : Addr) (lo hi : Int) (v : V) (d : PyData) (m : Nat), vs = [.ref W, v] ∧ H W = some (.tup [.int lo, .int hi]) ∧ (¬ okWi lo hi → E (.ref CW) none H) ∧
  (okWi lo hi → DA H v d ∧ Sh m d ∧ m ≤ 64 ∧ (30 < lk 6 0 d → ∀ H', Same H H' → E (.ref CP) none H') ∧ (lk 6 0 d ≤ 30 → ∀ H' t, Same H H' → TupV K H' t → Q (.ref t) H'))
theorem ok_jdX (T : TxtZ K mg CP CW) {f : Addr} {fd : FuncData} (D : C8.Def K mg "judged" s_judged f fd) (b : Binds K fd ["window", "plan"] []) (g_check_window : CalX P w K mg base 3 "check_window" (sp_windX K CW)) (g_check_plan : CalX P w K mg base 4 "check_plan" (sp_checkD CP))
    (g_Watcher : C8.Mak P w K mg base 1 "Watcher" CWt (sp_winit K CWt) []) (g_goals_of_rounds : C8.Cal P w K mg base 21 "goals_of_rounds" (sp_gr CWt 5) []) (g_delays_of_rounds : C8.Cal P w K mg base 21 "delays_of_rounds" (sp_dr CWt 5) []) (g_bite_of_rounds : C8.Cal P w K mg base 9 "bite_of_rounds" (sp_br K 5) []) :
    CalX P w K mg base 22 "judged" (sp_jdX K CP CW) := by
  refine calX D b sc_judged (fun vs H Q E h => ?_) fun cdv A outer s H vs Q E hr h => ?_
  · obtain ⟨W, lo, hi, v, d, m, rfl, _⟩ := h; rfl
  · obtain ⟨W, loI, hiI, v, d, md, rfl, hW, qw, qq⟩ := h
    have nd := sc_judged.nd
    refine ⟨_, (pss_cons (ps_expr (pe_cX g_check_window hr (by first | decide | exact Nat.le_refl _ | omega) (by rfl) (fun σ => passAt (takes_of rfl rfl rfl rfl) σ) (pa_cons (pv 0) pa_nil)))
      (pss_cons (ps_expr (pe_cX g_check_plan hr (by first | decide | exact Nat.le_refl _ | omega) (by rfl) (fun σ => passAt (takes_of rfl rfl rfl rfl) σ) (pa_cons (pv 1) pa_nil)))
      (pss_cons (ps_set (i := 2) nd rfl (Or.inl rfl) (C8.pe_mk g_Watcher hr (by first | decide | exact Nat.le_refl _ | omega) (by rfl) (pa_cons (pv 0) pa_nil)))
      (pss_cons (ps_set (i := 3) nd rfl (Or.inl rfl) (C8.pe_c g_goals_of_rounds hr (by first | decide | exact Nat.le_refl _ | omega) (by rfl) (pa_cons (pv 2) (pa_cons (pv 1) pa_nil))))
      (pss_cons (ps_if (pt_cmpR op_isN1 (pv 3) pe_non (nomark _)) (pss_one (ps_ret (pe_tup (pa_cons pe_str pa_nil)))) pss_nil)
      (pss_cons (ps_set (i := 4) nd rfl (Or.inl rfl) (pe_op op_sub (pe_callB (r := Wd.rLen K) call_len1 (by rfl) T.n_len PySem.boot_len (pa_cons (pv 3) pa_nil)) pe_int))
      (pss_cons (ps_set (i := 5) nd rfl (Or.inl rfl) (C8.pe_c g_delays_of_rounds hr (by first | decide | exact Nat.le_refl _ | omega) (by rfl) (pa_cons (pv 2) (pa_cons (pv 1) (pa_cons (pv 3) pa_nil)))))
      (pss_one (ps_ret (pe_tup (pa_cons pe_str (pa_cons (pv 4) (pa_cons (pv 5) (pa_cons (C8.pe_c g_bite_of_rounds hr (by first | decide | exact Nat.le_refl _ | omega) (by rfl) (pa_cons (pv 0) (pa_cons (pv 1) (pa_cons (pv 4) (pa_cons (pv 5) pa_nil))))) pa_nil)))))))))))))), ?_⟩
    walk_at "go"
    refine ⟨W, loI, hiI, rfl, SqT.of hW, fun okw => ?_, qw⟩
    obtain ⟨hd, shd, hmd, q0, qs⟩ := qq okw
    obtain ⟨o1, o2, o3⟩ := okw
    obtain ⟨lo, rfl⟩ : ∃ n : Nat, loI = n := ⟨loI.toNat, by omega⟩
    obtain ⟨hi, rfl⟩ : ∃ n : Nat, hiI = n := ⟨hiI.toNat, by omega⟩
    have l1 : lo ≤ hi := by omega
    have l2 : hi ≤ 1000 := by omega
    walk_at "go"
    refine ⟨v, d, md, rfl, hd, shd, hmd, fun le => ?_, fun gt H' s' => q0 gt H' s'⟩
    obtain ⟨p, pA, ok, hc⟩ := lk_pl 6 0 d v (by decide) hd (by omega)
    have q := qs le
    have cn : Wd.cnt p ≤ 30 := by omega
    have ok : okP 5 2 p := ok
    obtain ⟨n, en⟩ : ∃ n, n = 5 := ⟨5, rfl⟩
    obtain ⟨l, el⟩ : ∃ l, l = 2 := ⟨2, rfl⟩
    have m3 : mx p ≤ 3000 := by
      have h1 := mx_le p 5 2 ok
      have h2 : (10 : Nat) ^ 2 = 100 := rfl
      rw [h2] at h1
      omega
    have q1 : ∀ (H' : Hp) (t : Addr) (Z : Nat), Same H H' → H t = none → H' t = some (.tup [.str "safe"]) → Bits hi (Led lo hi p) Z Z → Z.testBit (hi + 1) = true → Z.testBit 0 = false → Q (.ref t) H' := fun H' t Z s _ ht _ _ _ => q H' t s (tupV_safe ht)
    have q2 : ∀ (H' : Hp) (t D q0 : Addr) (m : Nat) (ds nq : List Int) (t' : Int), Same H H' → H t = none → H D = none → D ≠ t → H' t = some (.tup [.str "bitten", nV m, .ref D, .ref q0]) → H' D = some (.lst (ds.map V.int)) → H' q0 = some (.tup [.int (fb lo hi 0 nq).1, .str (fb lo hi 0 nq).2]) →
      m ≤ 1001 → iter (rn p) m ds 0 = some (nq, [], t') → gapOf lo hi nq t' = ((hi + 1 : Nat) : Int) → ds.length ≤ 3003000 → nq.length ≤ 3003000 → Q (.ref t) H' := fun H' t D q0 m ds nq t' s _ _ _ ht hD hq _ _ _ _ _ => q H' t s (tupV_bite (fb_kind _ _ _ _) ht hD hq)
    intro H1 s1
    walk_at "go"
    refine g_make ?_
    walk_at "go"
    intro x dx hx hd nx
    obtain ⟨G, eG, s2, g2, k2, n2⟩ := made (C := CWt) hx hd nx
    rw [eG]
    refine ⟨x, dx, W, lo, hi, rfl, g2, SqT.of (s2 _ _ (s1 _ _ hW)), l1, l2, fun H2 f2 e2 => ⟨rfl, ?_⟩⟩
    have s3 : Same H H2 := s1.trans (k2 _ f2)
    walk_at "go"
    refine ⟨x, lo, hi, v, p, 2, rfl, ⟨dx, e2⟩, l1, l2, PlA_keep (keepT_same s3) _ _ pA, ok, fun H4 Z s4 bz z1 z0 => ?_, fun H4 L zs g s4 hL ch b0 zl => ?_⟩
    · walk_at "go"
      intro t ht
      walk_at "go"
      have s5 := s3.trans s4
      refine q1 _ t Z (s5.trans (same_new ht)) ?_ upd_same bz z1 z0
      cases hq : H t with
      | none => rfl
      | some o => rw [s5 _ _ hq] at ht; cases ht
    · have s5 := s3.trans s4
      walk_at "go"
      refine g_len (.inl (SqL.of hL)) ?_
      walk_at "go"
      have el : (((zs ++ [g]).map nV).length : Int) - 1 = ((zs.length : Nat) : Int) := by rw [List.length_map, List.length_append, List.length_singleton]; omega
      rw [el]
      walk_at "go"
      refine ⟨x, L, lo, hi, v, p, 2, zs, g, rfl, ⟨dx, s4 _ _ e2⟩, l1, l2, PlA_keep (keepT_same s5) _ _ pA, ok, m3, hL, ch, b0, zl, fun H5 DD as s6 nD eD go al => ?_⟩
      have s7 := s5.trans s6
      have nDH : H DD = none := by
        cases hq : H DD with
        | none => rfl
        | some o => rw [s5 _ _ hq] at nD; cases nD
      obtain ⟨nq, t', it, gp⟩ := go [] 0
      rw [List.append_nil] at it
      have gp0 := gp [] (by unfold gapOf stL; simp only; omega)
      rw [List.nil_append] at gp0
      have al2 : as.length ≤ 3003000 := by
        have := Nat.mul_le_mul (show zs.length ≤ 1001 by omega) m3
        omega
      have nl : nq.length ≤ 3003000 := by
        have h1 := iter_le (B := Wd.cnt p * 10 ^ 2) (fun ds t nq ds' t' h => np_le p 5 2 ds t nq ds' t' ok h) zs.length as 0 nq [] t' it
        have h2 : 10 ^ 2 ≤ 10 ^ 2 := Nat.le_refl _
        have h3 := Nat.mul_le_mul cn h2
        have h4 := Nat.mul_le_mul (show zs.length ≤ 1001 by omega) h3
        omega
      walk_at "go"
      refine ⟨W, DD, lo, hi, v, p, 2, zs.length, as, nq, t', rfl, SqT.of (s7 _ _ hW), s7 _ _ hW, PlA_keep (keepT_same s7) _ _ pA, ok, eD, by omega, it, by omega, fun H6 qq s8 eq => ?_⟩
      walk_at "go"
      intro t ht
      walk_at "go"
      have s9 := s7.trans s8
      have eD6 := s8 _ _ eD
      refine q2 _ t DD qq zs.length as nq t' (s9.trans (same_new ht)) ?_ nDH (fun y => by rw [y, ht] at eD6; cases eD6) upd_same (same_new ht _ _ eD6) (same_new ht _ _ eq) (by omega) it gp0 al2 nl
      cases hq : H t with
      | none => rfl
      | some o => rw [s9 _ _ hq] at ht; cases ht
end
end K02R
namespace K02R
open PySem PySem.Spec PyProof.Rows L2 Wd K02
local macro_rules | `(tactic| walk_at "gs") => `(tactic| repeat (first
  | with_reducible refine Wd.g_seq ?_
  | ((with_reducible show L2.Ends.nx _ _ _); (with_reducible refine Wd.g_nx ?_))
  | with_reducible refine Wd.g_asg ?_
  | ((with_reducible refine' Wd.g_var ?h1 ?_); (case h1 => exact rfl))
  | with_reducible refine Wd.g_c ?_
  | with_reducible refine Wd.g_op ?_
  | with_reducible refine Wd.g_un ?_
  | with_reducible refine Wd.g_I0 ?_
  | with_reducible refine Wd.g_U ?_
  | with_reducible refine Wd.g_eqI ?_
  | with_reducible refine Wd.g_neI ?_
  | with_reducible refine Wd.g_eqS ?_
  | with_reducible refine Wd.g_neS ?_
  | with_reducible refine Wd.g_eqB ?_
  | with_reducible refine Wd.g_neB ?_
  | with_reducible refine Wd.g_isN ?_
  | with_reducible refine Wd.g_notN ?_
  | with_reducible refine Wd.g_lc ?_
  | with_reducible refine Wd.g_yes ?_
  | with_reducible refine Wd.g_test ?_
  | with_reducible refine Wd.g_tB ?_
  | with_reducible refine Wd.g_bl ?_
  | with_reducible refine Wd.g_blI ?_
  | with_reducible refine Wd.g_and ?_
  | with_reducible refine Wd.g_or ?_
  | with_reducible refine Wd.g_not ?_
  | with_reducible refine Wd.g_andV ?_
  | with_reducible refine Wd.g_orV ?_
  | with_reducible refine Wd.g_notV ?_
  | with_reducible refine Wd.g_if ?_
  | with_reducible refine Wd.g_chain ?_
  | with_reducible refine Wd.g_chain3 ?_
  | with_reducible refine Wd.g_nil ?_
  | with_reducible refine Wd.g_cons ?_
  | with_reducible refine Wd.g_tup ?_
  | with_reducible refine Wd.g_lst ?_
  | with_reducible refine Wd.g_CB ?_
  | with_reducible refine Wd.g_call ?_
  | with_reducible refine Wd.g_callS ?_
  | with_reducible refine Wd.g_bm ?_
  | with_reducible refine Wd.g_bm0 ?_
  | with_reducible refine Wd.g_sl ?_
  | with_reducible refine Wd.g_part ?_
  | with_reducible refine Wd.g_part1 ?_
  | with_reducible refine Wd.g_noPart ?_
  | with_reducible refine Wd.g_next ?_
  | with_reducible refine Wd.g_name ?_
  | with_reducible refine Wd.g_sub ?_
  | with_reducible refine Wd.g_gnil ?_
  | with_reducible refine Wd.g_gcons ?_
  | with_reducible refine Wd.g_drop ?_
  | with_reducible refine Wd.g_ret ?_
  | with_reducible refine Wd.g_retN ?_
  | with_reducible refine Wd.g_brk ?_
  | with_reducible refine Wd.g_cont ?_
  | ((with_reducible show L2.Ends.bk _ _ _); (with_reducible refine Wd.g_bk ?_))
  | ((with_reducible show L2.Ends.ct _ _ _); (with_reducible refine Wd.g_ct ?_))
  | ((with_reducible show L2.Ends.rt _ _ _); (with_reducible refine Wd.g_rt ?_))
  | with_reducible refine Wd.g_for ?_
  | with_reducible refine Wd.g_rng1 ?_
  | with_reducible refine Wd.g_rng2 ?_
  | with_reducible refine Wd.g_iList ?_
  | with_reducible refine Wd.g_iTup ?_
  | ((with_reducible refine Wd.g_fit ?h1 ?_); (case h1 => exact rfl))
  | with_reducible refine Wd.g_max2 ?_
  | with_reducible refine Wd.g_min2 ?_
  | with_reducible refine Wd.g_int1B ?_
  | with_reducible refine L2.iteT ?_
  | with_reducible refine L2.iteF ?_
  | ((with_reducible refine Wd.g_itT ?h1 ?_); (case h1 => exact rfl))
  | ((with_reducible refine Wd.g_itF ?h1 ?_); (case h1 => exact rfl))))
section
variable {σ : L2.St} {H : Hp} {Q : VK}
theorem g_dget2 {td ty tx : TE} (h : td σ H fun x H1 => ∃ a, x = .ref a ∧ IsD H1 a ∧ ty σ H1 fun y H2 => tx σ H2 fun z H3 => ∃ o, DGet H3 a y o ∧ Q (o.getD z) H3) : tDGet2 td ty tx σ H Q := h
end
section
variable {X : Cx} {a b c d : Expr} {ta tb tc td : TE} {pos : Pos}
theorem pt_chain3 {op op' op2 : CmpOp} {r r' r2 : R2} (ho : OpR X (compareOp op) r) (ho' : OpR X (compareOp op') r') (ho2 : OpR X (compareOp op2) r2) (ha : PE X a ta) (hb : PE X b tb) (hc : PE X c tc) (hd : PE X d td)
    (hm : lastMarks [op, op', op2] [b, c, d] = false := by with_unfolding_all rfl) : PT X (.Compare a [op, op', op2] [b, c, d] pos) (tTest (tChain3 r r' r2 ta tb tc td)) := by
  refine ⟨fun pins s σ H Q I h => ?_⟩
  refine isTrue_chain (thn (ha.run pins s σ H _ I h) fun v s1 ⟨x, H1, I1, r1, q1⟩ => test_link (thn (hb.run pins s1 σ H1 _ I1 q1) fun u s2 ⟨y, H2, I2, r2, q2⟩ =>
    thn (ho pins s2 σ H2 x y v u _ I2 r1 r2 q2) fun d s3 ⟨z, H3, I3, r3, k, e, q3⟩ => ?_)) hm
  subst e
  cases r3
  refine wpAny_truthy_bool ?_
  cases k with
  | false =>
    obtain ⟨k', e', q'⟩ := q3
    cases e'
    exact ite_ff ⟨H3, I3, q'⟩
  | true =>
    refine ite_tt (test_link (thn (hc.run pins s3 σ H3 _ I3 q3) fun w' s4 ⟨z', H4, I4, r4, q4⟩ => thn (ho' pins s4 σ H4 y z' u w' _ I4 r2 r4 q4) fun d5 s5 ⟨z5, H5, I5, r5, k5, e5, q5⟩ => ?_))
    subst e5
    cases r5
    refine wpAny_truthy_bool ?_
    cases k5 with
    | false =>
      obtain ⟨k', e', q'⟩ := q5
      cases e'
      exact ite_ff ⟨H5, I5, q'⟩
    | true =>
      refine ite_tt (test_last (thn (hd.run pins s5 σ H5 _ I5 q5) fun w6 s6 ⟨z6, H6, I6, r6, q6⟩ => thn (ho2 pins s6 σ H6 z' z6 w' w6 _ I6 r4 r6 q6) fun d7 s7 ⟨z7, H7, I7, r7, k7, e7, q7⟩ => ?_))
      subst e7
      cases r7
      exact wpAny_truthy_bool ⟨H7, I7, q7⟩
end
theorem g_pairsC {σ : L2.St} {Q : List (V × V) → Hp → Prop} {H : Hp} : ∀ {kvs : List (V × V)}, Q kvs H → tPairs (kvs.map fun p => (tC p.1, tC p.2)) σ H Q
  | [], h => h
  | p :: kvs, h => g_pairsC (kvs := kvs) (Q := fun ps H3 => Q (p :: ps) H3) h
/-- the numbers among data -/
def intsD : List PyData → List Int
  | [] => []
  | .int i :: ds => i :: intsD ds
  | _ :: ds => intsD ds
theorem intsD_snoc : ∀ (ds : List PyData) (d : PyData), intsD (ds ++ [d]) = intsD ds ++ intsD [d]
  | [], d => rfl
  | .int i :: ds, d => by show i :: intsD (ds ++ [d]) = _; rw [intsD_snoc ds d]; rfl
  | .none :: ds, d => intsD_snoc ds d
  | .bool _ :: ds, d => intsD_snoc ds d
  | .str _ :: ds, d => intsD_snoc ds d
  | .list _ :: ds, d => intsD_snoc ds d
  | .tuple _ :: ds, d => intsD_snoc ds d
  | .dict _ :: ds, d => intsD_snoc ds d
theorem intsD_len : ∀ ds : List PyData, (intsD ds).length ≤ ds.length
  | [] => Nat.le_refl _
  | d :: ds => by
    have := intsD_len ds
    cases d <;> simp only [intsD, List.length_cons] <;> omega
theorem rgD_no {m : Int} {a b : PyData} (h : isInt a = false ∨ isInt b = false) : rgD m a b = false := by
  cases a <;> cases b <;> first | rfl | (rcases h with h | h <;> cases h)
theorem ints_two {a b : PyData} (h : isInt a = false ∨ isInt b = false) : (intsD [a, b]).length < 2 := by
  cases a <;> cases b <;> first | (simp [intsD]; done) | (rcases h with h | h <;> cases h)
theorem intsD_one {d : PyData} : intsD [d] = if isInt d = true then (match d with | .int i => [i] | _ => []) else [] := by cases d <;> rfl
/-- the sizes, by their words -/
def szK : List (Key × V) := [(.inr "pat", .int 1), (.inr "work", .int 3), (.inr "row", .int 2), (.inr "either", .int 2), (.inr "loop", .int 4)]
theorem sz_merge : mergeK [] szK = szK := by decide
def szN (w : Str) : Nat := if w = "pat" then 1 else if w = "work" then 3 else if w = "row" then 2 else if w = "either" then 2 else if w = "loop" then 4 else 0
theorem sz_at (w : Str) : (valV szK (.inr w)).getD (.int 0) = .int (szN w) := by
  unfold szN szK
  by_cases c1 : w = "pat"
  · rw [if_pos c1, valV_pos (by rw [c1])]; rfl
  rw [if_neg c1, valV_neg (fun z => c1 (Sum.inr.inj z).symm)]
  by_cases c2 : w = "work"
  · rw [if_pos c2, valV_pos (by rw [c2])]; rfl
  rw [if_neg c2, valV_neg (fun z => c2 (Sum.inr.inj z).symm)]
  by_cases c3 : w = "row"
  · rw [if_pos c3, valV_pos (by rw [c3])]; rfl
  rw [if_neg c3, valV_neg (fun z => c3 (Sum.inr.inj z).symm)]
  by_cases c4 : w = "either"
  · rw [if_pos c4, valV_pos (by rw [c4])]; rfl
  rw [if_neg c4, valV_neg (fun z => c4 (Sum.inr.inj z).symm)]
  by_cases c5 : w = "loop"
  · rw [if_pos c5, valV_pos (by rw [c5])]; rfl
  rw [if_neg c5, valV_neg (fun z => c5 (Sum.inr.inj z).symm), valV_nil]; rfl
theorem sz_no {w : Str} {rest : List PyData} (h : rest.length + 1 ≠ szN w) : ndW w rest = .bad := by
  unfold szN at h
  by_cases c1 : w = "pat"
  · rw [if_pos c1] at h; rw [c1, ndW_pat, if_neg (by omega)]
  rw [if_neg c1] at h
  by_cases c2 : w = "work"
  · rw [if_pos c2] at h; rw [c2]; exact ndW_work_no (by omega)
  rw [if_neg c2] at h
  by_cases c3 : w = "row"
  · rw [if_pos c3] at h; exact ndW_many_no (.inl c3) (fun ps e => by rw [e] at h; exact h rfl)
  rw [if_neg c3] at h
  by_cases c4 : w = "either"
  · rw [if_pos c4] at h; exact ndW_many_no (.inr c4) (fun ps e => by rw [e] at h; exact h rfl)
  rw [if_neg c4] at h
  by_cases c5 : w = "loop"
  · rw [if_pos c5] at h; rw [c5]; exact ndW_loop_no (by omega)
  exact ndW_no c1 c2 c3 c4 c5
theorem sz_yes {w : Str} {rest : List PyData} (h : rest.length + 1 = szN w) : (w = "pat" ∧ rest = []) ∨ (∃ a b tl, rest = a :: b :: tl ∧ ((w = "work" ∧ tl = []) ∨ (w = "loop" ∧ ∃ c, tl = [c]))) ∨ ((w = "row" ∨ w = "either") ∧ ∃ a, rest = [a]) := by
  unfold szN at h
  have two : ∀ l : List PyData, l.length = 2 → ∃ a b, l = [a, b] := fun l hl => by match l, hl with | [a, b], _ => exact ⟨a, b, rfl⟩
  have one : ∀ l : List PyData, l.length = 1 → ∃ a, l = [a] := fun l hl => by match l, hl with | [a], _ => exact ⟨a, rfl⟩
  have thr : ∀ l : List PyData, l.length = 3 → ∃ a b c, l = [a, b, c] := fun l hl => by match l, hl with | [a, b, c], _ => exact ⟨a, b, c, rfl⟩
  by_cases c1 : w = "pat"
  · rw [if_pos c1] at h; exact .inl ⟨c1, List.length_eq_zero_iff.mp (by omega)⟩
  rw [if_neg c1] at h
  by_cases c2 : w = "work"
  · rw [if_pos c2] at h; obtain ⟨a, b, e⟩ := two rest (by omega); exact .inr (.inl ⟨a, b, [], e, .inl ⟨c2, rfl⟩⟩)
  rw [if_neg c2] at h
  by_cases c3 : w = "row"
  · rw [if_pos c3] at h; exact .inr (.inr ⟨.inl c3, one _ (by omega)⟩)
  rw [if_neg c3] at h
  by_cases c4 : w = "either"
  · rw [if_pos c4] at h; exact .inr (.inr ⟨.inr c4, one _ (by omega)⟩)
  rw [if_neg c4] at h
  by_cases c5 : w = "loop"
  · rw [if_pos c5] at h; obtain ⟨a, b, c, e⟩ := thr rest (by omega); exact .inr (.inl ⟨a, b, [c], e, .inr ⟨c5, c, rfl⟩⟩)
  rw [if_neg c5] at h; omega
section
variable {P : Program} {w : World} {K : PySem.W.Frag} {mg : Str → Option Value} {base : Heap}
theorem sum_cast {α : Type} (f : α → Nat) : ∀ l : List α, (((l.map f).sum : Nat) : Int) = (l.map fun x => ((f x : Nat) : Int)).sum
  | [] => rfl
  | x :: l => by rw [List.map_cons, List.sum_cons, List.map_cons, List.sum_cons, Int.natCast_add, sum_cast f l]
abbrev s_law_looks : Stmt := top 52
theorem sc_law_looks : FnScope ["_law_plan_here", "_law_deep", "_law_loops", "_law_word", "_law_sizes", "_law_some", "_law_one", "_law_part"] ["_law_plan_here", "_law_deep", "_law_loops"] (C8.fnScope s_law_looks) := C8.fnScope_by (by decide +kernel)
def sp_looks : Nat → Sp
  | 0 => fun _ _ _ _ => False
  | k + 1 => fun vs H Q _ => ∃ (v : V) (d : PyData) (m n l : Nat) (deep loops : Int), vs = [v, .int deep, .int loops] ∧ DA H v d ∧ Sh m d ∧ m ≤ 64 ∧ deep + n = 7 ∧ loops = l ∧ l ≤ 2 ∧ n ≤ k ∧ ∀ H', Same H H' → Q (.int (lk n l d : Nat)) H'
theorem use_looks {k m n l : Nat} {v : V} {d : PyData} {deep loops : Int} {H : Hp} {Q : VK} {E : XK} (hd : DA H v d) (sh : Sh m d) (hm : m ≤ 64) (h1 : deep + n = 7) (h2 : loops = l) (h3 : l ≤ 2) (h4 : n ≤ k) (q : ∀ H', Same H H' → Q (.int (lk n l d : Nat)) H') : sp_looks (k + 1) ([v, .int deep, .int loops] ++ []) H Q E := ⟨v, d, m, n, l, deep, loops, rfl, hd, sh, hm, h1, h2, h3, h4, q⟩
theorem looks_step (T : TxtP K mg) {k : Nat} {f : Addr} {fd : FuncData} (D : C8.Def K mg "_law_looks" s_law_looks f fd) (b : Binds K fd ["_law_plan_here", "_law_deep", "_law_loops"] [])
    (g_law_looks : C8.Cal P w K mg base k "_law_looks" (sp_looks k) []) : C8.Cal P w K mg base (k + 1) "_law_looks" (sp_looks (k + 1)) [] := by
  refine C8.cal0 D b .nil sc_law_looks (fun vs H Q E h => ?_) fun cdv A outer s H vs Q E hr h => ?_
  · obtain ⟨v, d, m, n, l, deep, loops, rfl, _⟩ := h; rfl
  · obtain ⟨v, d, m, n, l, deep, loops, rfl, hd, sh, hm, hdn, rfl, hl, hnk, q⟩ := h
    have nd := sc_law_looks.nd
    have hr : Room k _ := hr
    refine ⟨_, (pss_cons (ps_if (PW.pt (pw_or (pt_not (pt_val (pe_callB (r := rIsi K) call_isi (by rfl) T.n_isinstance (by decide +kernel) (pa_cons (pv 0) (pa_cons (pe_bltn (v := .ty "tuple") (by rfl) T.n_tuple (by decide +kernel) rfl) pa_nil))))) (pw_or (pt_cmpR (r := rEqD K) (op_eqD hr.units) (pv 0) (pe_tup pa_nil) (nomark _)) (pw_or1 (pt_cmpR op_gt (pv 1) pe_int (nomark _)))))) (pss_one (ps_ret pe_int)) pss_nil)
      (pss_cons (ps_set (i := 3) nd rfl (Or.inl rfl) (pe_ix (r := rIxT K) ix_tup (pv 0) pe_int (fun _ _ => rfl)))
      (pss_cons (ps_set (i := 4) nd rfl (Or.inl rfl) (pe_disp (pps_cons pe_str pe_int (pps_cons pe_str pe_int (pps_cons pe_str pe_int (pps_cons pe_str pe_int (pps_cons pe_str pe_int pps_nil))))) (by rfl) (by rfl) (fun z => nomatch z) (by decide)))
      (pss_cons (ps_if (PW.pt (pw_or (pt_not (pt_val (pe_callB (r := rIsi K) call_isi (by rfl) T.n_isinstance (by decide +kernel) (pa_cons (pv 3) (pa_cons (pe_bltn (v := .ty "str") (by rfl) T.n_str (by decide +kernel) rfl) pa_nil))))) (pw_or1 (pt_cmpR op_ne (pe_callB (r := Wd.rLen K) call_len1 (by rfl) T.n_len PySem.boot_len (pa_cons (pv 0) pa_nil)) (pe_dget2 (Nat.lt_of_le_of_lt (Nat.add_le_add_left (by decide) _) hr.units) (pv 4) (pv 3) pe_int ⟨by rfl, by rfl, by rfl, by rfl⟩) (nomark _))))) (pss_one (ps_ret pe_int)) pss_nil)
      (pss_cons (ps_if (pt_cmpR (r := rIn K false) op_in_seq (pv 3) (pe_tup (pa_cons pe_str (pa_cons pe_str pa_nil))) (by with_unfolding_all rfl)) (pss_cons (ps_setLc (i := 5) (own := [("_law_one", 6)]) (g := gName 6) rfl nd rfl rfl (sw_true rfl rfl rfl (by decide +kernel)) (pi_tup (pe_slice (r := rSlT K) sl_tup (pv 0) (po_some pe_int) (po_some pe_int))) (blkOk_by (N := ["_law_plan_here", "_law_deep", "_law_loops", "_law_word", "_law_sizes", "_law_some", "_law_one", "_law_part"]) (sc := C8.fnScope s_law_looks) (by decide +kernel)) (fun _ _ _ _ _ => pg_name (i := 6) nd rfl (Or.inl rfl)) (fun _ _ _ _ _ => pts_one (PW.pt (pw_and (pt_val (pe_callB (r := rIsi K) call_isi (by rfl) T.n_isinstance (by decide +kernel) (pa_cons (pv 6) (pa_cons (pe_bltn (v := .ty "int") (by rfl) T.n_int (by decide +kernel) rfl) pa_nil)))) (pw_and1 (pt_not (pt_val (pe_callB (r := rIsi K) call_isi (by rfl) T.n_isinstance (by decide +kernel) (pa_cons (pv 6) (pa_cons (pe_bltn (v := .ty "bool") (by rfl) T.n_bool (by decide +kernel) rfl) pa_nil))))))))) (fun _ _ _ _ _ => (pv 6)))
      (pss_one (ps_if (PW.pt (pw_or (pt_cmpR op_lt (pe_callB (r := Wd.rLen K) call_len1 (by rfl) T.n_len PySem.boot_len (pa_cons (pv 5) pa_nil)) pe_int (nomark _)) (pw_or1 (pt_not (pt_chain3 op_le op_le op_le pe_int (pe_ix (r := rIxL K) ix_list (pv 5) pe_int (fun _ _ => rfl)) (pe_ix (r := rIxL K) ix_list (pv 5) pe_int (fun _ _ => rfl)) (pe_ix (r := rIxL K) ix_list (pe_lst (pa_cons pe_int (pa_cons pe_int pa_nil))) (pe_callTy call_intB (by rfl) T.n_int (by decide +kernel) (pa_cons (pe_cmpR op_eq (pv 3) pe_str (nomark _)) pa_nil)) (fun _ _ => rfl))))))) (pss_one (ps_ret pe_int)) pss_nil))) pss_nil)
      (pss_cons (ps_if (pt_cmpR op_eq (pv 3) pe_str (nomark _)) (pss_one (ps_ret (pe_ifExp (pt_cmpR op_eq (pv 2) pe_int (nomark _)) pe_int (pe_op op_add pe_int (C8.pe_c g_law_looks hr (by first | decide | exact Nat.le_refl _ | omega) (by rfl) (pa_cons (pe_ix (r := rIxT K) ix_tup (pv 0) pe_int (fun _ _ => rfl)) (pa_cons (pe_op op_add (pv 1) pe_int) (pa_cons (pe_op op_add (pv 2) pe_int) pa_nil)))))))) pss_nil)
      (pss_cons (ps_if (pt_cmpR (r := rIn K false) op_in_seq (pv 3) (pe_tup (pa_cons pe_str (pa_cons pe_str pa_nil))) (by with_unfolding_all rfl)) (pss_one (ps_ret pe_int)) pss_nil)
      (pss_cons (ps_if (PW.pt (pw_or (pt_not (pt_val (pe_callB (r := rIsi K) call_isi (by rfl) T.n_isinstance (by decide +kernel) (pa_cons (pe_ix (r := rIxT K) ix_tup (pv 0) pe_int (fun _ _ => rfl)) (pa_cons (pe_bltn (v := .ty "tuple") (by rfl) T.n_tuple (by decide +kernel) rfl) pa_nil))))) (pw_or1 (pt_not (pt_chain op_le op_le pe_int (pe_callB (r := Wd.rLen K) call_len1 (by rfl) T.n_len PySem.boot_len (pa_cons (pe_ix (r := rIxT K) ix_tup (pv 0) pe_int (fun _ _ => rfl)) pa_nil)) pe_int))))) (pss_one (ps_ret pe_int)) pss_nil)
      (pss_one (ps_ret (pe_op op_add pe_int (pe_callB (r := rSum K) (cr_sum rfl) (by rfl) T.n_sum (by decide +kernel) (pa_cons (pe_lc (own := [("_law_part", 7)]) (g := gName 7) (tt := tYes) rfl nd (pi_tup (pe_ix (r := rIxT K) ix_tup (pv 0) pe_int (fun _ _ => rfl))) (blkOk_by (N := ["_law_plan_here", "_law_deep", "_law_loops", "_law_word", "_law_sizes", "_law_some", "_law_one", "_law_part"]) (sc := C8.fnScope s_law_looks) (by decide +kernel)) (fun _ _ _ _ _ => pg_name (i := 7) nd rfl (Or.inl rfl)) (fun _ _ _ _ _ => pts_nil) (fun _ _ _ _ _ => (C8.pe_c g_law_looks hr (by first | decide | exact Nat.le_refl _ | omega) (by rfl) (pa_cons (pv 7) (pa_cons (pe_op op_add (pv 1) pe_int) (pa_cons (pv 2) pa_nil)))))) pa_nil))))))))))))), ?_⟩
    walk_at "go"
    refine use_isT hd ?_
    cases hd with
    | int i =>
      rw [lk_bad rfl] at q
      walk_at "go"
      exact q H (fun _ _ h => h)
    | str x =>
      rw [lk_bad rfl] at q
      walk_at "go"
      exact q H (fun _ _ h => h)
    | @tup a vs ds ha hs =>
      walk_at "go"
      intro t0 ht0
      have s1 := same_new (o := .tup []) ht0
      refine use_eqN (.tup (s1 _ _ ha) (DAs_keep (keepT_same s1) _ _ hs)) sh hm upd_same ?_
      generalize upd H t0 (.tup []) = H1 at s1
      have ha := s1 _ _ ha
      have hs := DAs_keep (keepT_same s1) _ _ hs
      cases hs with
      | nil =>
        rw [lk_bad rfl] at q
        walk_at "go"
        exact q H1 s1
      | @cons v0 vr d0 rest h0 hr' =>
        walk_at "go"
        refine g_ite (fun hy => ?_) (fun hy => ?_)
        · walk_at "go"
          have hy' : (6 : Int) < deep := hy
          have n0 : n = 0 := by omega
          subst n0
          exact q H1 s1
        have hy' : ¬ (6 : Int) < deep := hy
        obtain ⟨n, rfl⟩ : ∃ n', n = n' + 1 := ⟨n - 1, by omega⟩
        walk_at "go"
        refine g_ixT (SqT.of ha) (at_of (j := 0) rfl rfl) ?_
        walk_at "go"
        intro pd hpd
        refine g_pairsC (kvs := [(.str "pat", .int 1), (.str "work", .int 3), (.str "row", .int 2), (.str "either", .int 2), (.str "loop", .int 4)]) ?_
        refine ⟨upd_same, szK, rfl, by decide, ?_⟩
        rw [sz_merge]
        have s2 : Same H1 (upd (upd H1 pd (.dK [])) pd (.dK szK)) := Wd.Same.mut (same_new hpd) hpd
        have e2 := upd_same (H := upd H1 pd (.dK [])) (a := pd) (o := .dK szK)
        generalize upd (upd H1 pd (.dK [])) pd (.dK szK) = H2 at s2 e2
        have s02 := s1.trans s2
        have ha := s2 _ _ ha
        have hr' := DAs_keep (keepT_same s2) _ _ hr'
        have h0 := DA_keep (keepT_same s2) _ _ h0
        obtain ⟨m, rfl, sh0⟩ : ∃ m', m = m' + 1 ∧ ∀ d ∈ d0 :: rest, Sh m' d := by cases sh with | tup _ g => exact ⟨_, rfl, g⟩
        clear hs s1 s2
        walk_at "go"
        refine use_isS h0 ?_
        cases hS : isStr d0 with
        | false =>
          rw [lk_bad (by rw [nd_no hS]; rfl)] at q
          walk_at "go"
          exact q H2 s02
        | true =>
          cases h0 with
          | int _ => cases hS
          | tup _ _ => cases hS
          | str wd =>
            have en : K02R.nd (.tuple (.str wd :: rest)) = ndW wd rest := rfl
            have lr := hr'.len
            walk_at "go"
            refine g_len (.inr (SqT.of ha)) ?_
            walk_at "go"
            refine g_dget2 ?_
            walk_at "go"
            refine ⟨pd, rfl, .inl ⟨_, .inl e2⟩, ?_⟩
            walk_at "go"
            refine ⟨_, DGet.k (k := Sum.inr wd) e2, ?_⟩
            rw [sz_at]
            walk_at "go"
            refine g_iteN (fun hz => ?_) (fun hz => ?_)
            · rw [lk_bad (by rw [en, sz_no (by rw [List.length_cons, lr] at hz; omega)]; rfl)] at q
              walk_at "go"
              exact q H2 s02
            rcases sz_yes (w := wd) (rest := rest) (by rw [List.length_cons, lr] at hz; omega) with ⟨rfl, rfl⟩ | ⟨a1, b1, tl, rfl, hw⟩ | ⟨hw, a1, rfl⟩
            · cases hr'
              have el : lk (n + 1) l (.tuple [.str "pat"]) = 1 := by rw [lk]; rfl
              rw [el] at q
              walk_at "go"
              intro t3 ht3
              have s3 := same_new (o := .tup [.str "work", .str "loop"]) ht3
              refine g_inT (SqT.of upd_same) rfl rfl ?_
              walk_at "go"
              intro t4 ht4
              have s4 := same_new (o := .tup [.str "pat", .str "work"]) ht4
              refine g_inT (SqT.of upd_same) rfl rfl ?_
              walk_at "go"
              exact q _ (s02.trans (s3.trans s4))
            · cases hr' with
              | @cons va vr1 _ _ ga hr2 =>
              cases hr2 with
              | @cons vb vtl _ _ gb hr3 =>
              have inw : inV (.str wd) [.str "work", .str "loop"] = true := by rcases hw with ⟨rfl, _⟩ | ⟨rfl, _⟩ <;> rfl
              have cut : cutV (V.str wd :: va :: vb :: vtl) (some 1) (some 3) = [va, vb] := by
                rcases hw with ⟨rfl, rfl⟩ | ⟨rfl, c1, rfl⟩
                · cases hr3; rfl
                · cases hr3 with | cons _ g => cases g; rfl
              walk_at "go"
              intro t3 ht3
              have s3 := same_new (o := .tup [.str "work", .str "loop"]) ht3
              refine g_inT (SqT.of upd_same) rfl rfl ?_
              rw [inw]
              generalize upd H2 t3 (.tup [.str "work", .str "loop"]) = H3 at s3
              walk_at "go"
              refine ⟨a, _, rfl, SqT.of (s3 _ _ ha), ?_, fun p hp => ?_⟩
              · rcases hw with ⟨rfl, rfl⟩ | ⟨rfl, c1, rfl⟩
                · cases hr3
                  show ¬ (HT.sIx 3 0 (some 1) = 0 ∧ HT.sIx 3 3 (some 3) = 3)
                  decide
                · cases hr3 with
                  | cons _ g =>
                    cases g
                    show ¬ (HT.sIx 4 0 (some 1) = 0 ∧ HT.sIx 4 4 (some 3) = 4)
                    decide
              rw [cut]
              have s4 := s3.trans (same_new (o := .tup [va, vb]) hp)
              have ep := upd_same (H := H3) (a := p) (o := .tup [va, vb])
              generalize upd H3 p (.tup [va, vb]) = H4 at s4 ep
              have ga4 := DA_keep (keepT_same s4) _ _ ga
              have gb4 := DA_keep (keepT_same s4) _ _ gb
              have gab : DAs H4 [va, vb] [a1, b1] := .cons ga4 (.cons gb4 .nil)
              refine w_lcTup (xs := [va, vb]) (SqT.of ep) (fun D i H' => Same H4 H' ∧ H' D = some (.lst ((intsD ([a1, b1].take i)).map V.int))) ?_ ?_ ?_ ?_
              · intro D hD
                exact ⟨same_new hD, upd_same⟩
              · rintro D i H' hD _ ⟨s5, _⟩
                exact SqT.of (s5 _ _ ep)
              · rintro D i x H' hD hx ⟨s5, eD⟩
                obtain ⟨y, hy, gy⟩ := gab.at' hx
                have gy5 := DA_keep (keepT_same s5) _ _ gy
                have ts : [a1, b1].take (i + 1) = [a1, b1].take i ++ [y] := by rw [List.take_add_one, hy]; rfl
                walk_at "go"
                refine ⟨rfl, ?_⟩
                walk_at "go"
                refine use_isI gy5 ?_
                have i2 : i < 2 := (List.getElem?_eq_some_iff.mp hy).1
                cases gy5 with
                | str z =>
                  walk_at "go"
                  exact ⟨s5, by rw [ts, intsD_snoc]; show H' D = some (.lst ((intsD _ ++ []).map V.int)); rw [List.append_nil]; exact eD⟩
                | tup _ _ =>
                  walk_at "go"
                  exact ⟨s5, by rw [ts, intsD_snoc]; show H' D = some (.lst ((intsD _ ++ []).map V.int)); rw [List.append_nil]; exact eD⟩
                | int z =>
                  walk_at "go"
                  refine use_isB (.int z) ?_
                  walk_at "go"
                  refine ⟨_, eD, small_lt (by have := intsD_len ([a1, b1].take i); rw [List.length_map]; rw [List.length_take] at this; omega), Wd.Same.mut s5 hD, ?_⟩
                  rw [upd_same, ts, intsD_snoc, List.map_append]; rfl
              · rintro D H5 hD ⟨s5, eD⟩
                have s05 := s02.trans (s4.trans s5)
                have eD : H5 D = some (.lst ((intsD [a1, b1]).map V.int)) := eD
                have no : rgD (if wd = "work" then 1000 else 9) a1 b1 = false → ∀ H', Same H H' → Q (.int (100 : Nat)) H' := fun hg H' sH' => by
                  have := q H' sH'
                  rw [lk_bad (by
                    rw [en]
                    rcases hw with ⟨rfl, rfl⟩ | ⟨rfl, c1, rfl⟩
                    · rw [ndW_work, if_neg (by rw [if_pos rfl] at hg; rw [hg]; decide)]; rfl
                    · rw [ndW_loop, if_neg (by rw [if_neg (by decide)] at hg; rw [hg]; decide)]; rfl)] at this
                  exact this
                walk_at "go"
                refine g_len (.inl (SqL.of eD)) ?_
                walk_at "go"
                by_cases hb : isInt a1 = false ∨ isInt b1 = false
                · have i2 := ints_two hb
                  rw [List.length_map]
                  refine g_ite (fun _ => ?_) (fun z => absurd (show ((intsD [a1, b1]).length : Int) < 2 by omega) z)
                  walk_at "go"
                  exact no (rgD_no hb) _ s05
                cases ga4 with
                | str _ => exact absurd (.inl rfl) hb
                | tup _ _ => exact absurd (.inl rfl) hb
                | int i =>
                cases gb4 with
                | str _ => exact absurd (.inr rfl) hb
                | tup _ _ => exact absurd (.inr rfl) hb
                | int j =>
                have eD : H5 D = some (.lst [.int i, .int j]) := eD
                refine g_ite (fun z => absurd (show (2 : Int) < 2 from z) (by decide)) (fun _ => ?_)
                walk_at "go"
                refine g_ixL (v := .int i) (SqL.of eD) rfl ?_
                walk_at "go"
                refine g_ite (fun c1 => ?_) (fun c1 => ?_)
                case refine_2 =>
                  walk_at "go"
                  exact no (decide_eq_false (fun z => c1 z.1)) _ s05
                walk_at "go"
                refine g_ixL (v := .int j) (SqL.of eD) rfl ?_
                walk_at "go"
                refine g_ite (fun c2 => ?_) (fun c2 => ?_)
                case refine_2 =>
                  walk_at "go"
                  exact no (decide_eq_false (fun z => c2 z.2.1)) _ s05
                walk_at "go"
                intro L9 hL9
                have s6 := same_new (o := .lst [.int 9, .int 1000]) hL9
                have e6 := upd_same (H := H5) (a := L9) (o := .lst [.int 9, .int 1000])
                generalize upd H5 L9 (.lst [.int 9, .int 1000]) = H6 at s6 e6
                walk_at "go"
                refine g_ixL (v := .int (if wd = "work" then 1000 else 9)) (SqL.of e6) (by rcases hw with ⟨rfl, _⟩ | ⟨rfl, _⟩ <;> rfl) ?_
                walk_at "go"
                have s06 := s05.trans s6
                refine g_iteN (fun c3 => ?_) (fun c3 => ?_)
                · walk_at "go"
                  exact no (decide_eq_false (fun z => c3 z.2.2)) _ s06
                have yes : rgD (if wd = "work" then 1000 else 9) (.int i) (.int j) = true := decide_eq_true ⟨c1, c2, c3⟩
                clear no
                rcases hw with ⟨rfl, rfl⟩ | ⟨rfl, c1', rfl⟩
                · rw [if_pos rfl] at yes
                  have el : lk (n + 1) l (.tuple [.str "work", .int i, .int j]) = 1 := by
                    rw [lk, en, ndW_work, if_pos yes]
                  rw [el] at q
                  walk_at "go"
                  intro t7 ht7
                  have s7 := same_new (o := .tup [.str "pat", .str "work"]) ht7
                  refine g_inT (SqT.of upd_same) rfl rfl ?_
                  walk_at "go"
                  exact q _ (s06.trans s7)
                · rw [if_neg (by decide)] at yes
                  cases hr3 with
                  | @cons vc _ _ _ gc hr4 =>
                  cases hr4
                  have el : lk (n + 1) l (.tuple [.str "loop", .int i, .int j, c1']) = if l = 2 then 100 else 1 + lk n (l + 1) c1' := by
                    rw [lk, en, ndW_loop, if_pos yes]
                  rw [el] at q
                  walk_at "go"
                  refine g_ite (fun z => ?_) (fun z => ?_)
                  · rw [if_pos (by omega)] at q
                    walk_at "go"
                    exact q _ s06
                  · have z' : ¬ (l : Int) = 2 := z
                    rw [if_neg (by omega)] at q
                    walk_at "go"
                    have s26 := s4.trans (s5.trans s6)
                    refine g_ixT (SqT.of (s26 _ _ ha)) rfl ?_
                    walk_at "go"
                    obtain ⟨k, rfl⟩ : ∃ k', k = k' + 1 := ⟨k - 1, by omega⟩
                    refine use_looks (n := n) (l := l + 1) (DA_keep (keepT_same s26) _ _ gc) (sh0 _ (List.mem_cons_of_mem _ (List.mem_cons_of_mem _ (List.mem_cons_of_mem _ List.mem_cons_self)))) (by omega) (by omega) (by omega) (by omega) (by omega) fun H7 s7 => ?_
                    walk_at "go"
                    have := q H7 (s06.trans s7)
                    rw [Int.natCast_add] at this
                    exact this
            · cases hr' with
              | @cons va _ _ _ ga hr2 =>
              cases hr2
              have hw5 : wd ≠ "loop" := by rcases hw with rfl | rfl <;> decide
              have inw : inV (.str wd) [.str "work", .str "loop"] = false := by rcases hw with rfl | rfl <;> rfl
              have inp : inV (.str wd) [.str "pat", .str "work"] = false := by rcases hw with rfl | rfl <;> rfl
              have no : hfN (ndW wd [a1]) = false → ∀ H', Same H H' → Q (.int (100 : Nat)) H' := fun hg H' sH' => by
                have := q H' sH'
                rw [lk_bad (by rw [en]; exact hg)] at this
                exact this
              walk_at "go"
              intro t3 ht3
              have s3 := same_new (o := .tup [.str "work", .str "loop"]) ht3
              refine g_inT (SqT.of upd_same) rfl rfl ?_
              rw [inw]
              generalize upd H2 t3 (.tup [.str "work", .str "loop"]) = H3 at s3
              walk_at "go"
              rw [decide_eq_false hw5]
              walk_at "go"
              intro t4 ht4
              have s4 := s3.trans (same_new (o := .tup [.str "pat", .str "work"]) ht4)
              refine g_inT (SqT.of upd_same) rfl rfl ?_
              rw [inp]
              generalize upd H3 t4 (.tup [.str "pat", .str "work"]) = H4 at s4
              have s04 := s02.trans s4
              have ha4 := s4 _ _ ha
              have ga4 := DA_keep (keepT_same s4) _ _ ga
              walk_at "go"
              refine g_ixT (v := va) (SqT.of ha4) rfl ?_
              walk_at "go"
              refine use_isT ga4 ?_
              cases ga4 with
              | int i =>
                walk_at "go"
                exact no (by rw [ndW_many_no hw (fun ps e => by cases e)]; rfl) _ s04
              | str x =>
                walk_at "go"
                exact no (by rw [ndW_many_no hw (fun ps e => by cases e)]; rfl) _ s04
              | @tup c1 us ps hc hps =>
              walk_at "go"
              refine g_ixT (SqT.of ha4) rfl ?_
              walk_at "go"
              refine g_len (.inr (SqT.of hc)) ?_
              walk_at "go"
              have lu := hps.len
              rw [lu]
              refine g_ite (fun z1 => ?_) (fun z1 => ?_)
              case refine_2 =>
                walk_at "go"
                exact no (by rw [ndW_many hw, if_neg (by omega)]; rfl) _ s04
              walk_at "go"
              refine g_iteN (fun z2 => ?_) (fun z2 => ?_)
              · walk_at "go"
                exact no (by rw [ndW_many hw, if_neg (by omega)]; rfl) _ s04
              have el : lk (n + 1) l (.tuple [.str wd, .tuple ps]) = 1 + (ps.map (lk n l)).sum := by
                rw [lk, en, ndW_many hw, if_pos (by omega)]
              rw [el] at q
              obtain ⟨k, rfl⟩ : ∃ k', k = k' + 1 := ⟨k - 1, by omega⟩
              have shp : ∀ x ∈ ps, Sh m x := fun x hx => by
                have h1 := sh0 _ (List.mem_cons_of_mem _ List.mem_cons_self)
                obtain ⟨m2, rfl, h2⟩ := h1.in hx
                exact h2.up
              walk_at "go"
              refine g_ixT (SqT.of ha4) rfl ?_
              refine w_lcTup (xs := us) (SqT.of hc) (fun D i H' => Same H4 H' ∧ H' D = some (.lst (((ps.take i).map fun x => ((lk n l x : Nat) : Int)).map V.int))) ?_ ?_ ?_ ?_
              · intro D hD
                exact ⟨same_new hD, upd_same⟩
              · rintro D i H' hD _ ⟨s5, _⟩
                exact SqT.of (s5 _ _ hc)
              · rintro D i x H' hD hx ⟨s5, eD⟩
                obtain ⟨y, hy, gy⟩ := hps.at' hx
                walk_at "go"
                refine ⟨rfl, ?_⟩
                walk_at "go"
                refine use_looks (n := n) (l := l) (DA_keep (keepT_same s5) _ _ gy) (shp _ (List.mem_of_getElem? hy)) (by omega) (by omega) rfl hl (by omega) fun H6 s6 => ?_
                walk_at "go"
                have hi : i < ps.length := (List.getElem?_eq_some_iff.mp hy).1
                refine ⟨_, s6 _ _ eD, small_lt (by rw [List.length_map, List.length_map, List.length_take]; omega), Wd.Same.mut (s5.trans s6) hD, ?_⟩
                rw [upd_same, take_snoc hy, List.map_append, List.map_append]; rfl
              · rintro D H' hD ⟨s5, eD⟩
                rw [lu, List.take_length] at eD
                walk_at "go"
                refine g_sum (SqL.of eD) ?_
                walk_at "go"
                have := q H' (s04.trans s5)
                rw [Int.natCast_add, sum_cast] at this
                exact this
theorem ok_looks (T : TxtP K mg) {f : Addr} {fd : FuncData} (D : C8.Def K mg "_law_looks" s_law_looks f fd) (b : Binds K fd ["_law_plan_here", "_law_deep", "_law_loops"] []) : ∀ k : Nat, C8.Cal P w K mg base k "_law_looks" (sp_looks k) []
  | 0 => ⟨f, fd, ["_law_plan_here", "_law_deep", "_law_loops"], [], ⟨fun _ _ _ _ h => h.elim, fun _ _ _ _ _ _ _ _ _ _ _ _ _ h => h.elim⟩, D.mgf, D.kp, b, .nil⟩
  | k + 1 => looks_step T D b (ok_looks T D b k)
end
end K02R
namespace K02R
open PySem PySem.Spec PyProof.Rows L2 Wd K02
local macro_rules | `(tactic| walk_at "gs") => `(tactic| repeat (first
  | with_reducible refine Wd.g_seq ?_
  | ((with_reducible show L2.Ends.nx _ _ _); (with_reducible refine Wd.g_nx ?_))
  | with_reducible refine Wd.g_asg ?_
  | ((with_reducible refine' Wd.g_var ?h1 ?_); (case h1 => exact rfl))
  | with_reducible refine Wd.g_c ?_
  | with_reducible refine Wd.g_op ?_
  | with_reducible refine Wd.g_un ?_
  | with_reducible refine Wd.g_I0 ?_
  | with_reducible refine Wd.g_U ?_
  | with_reducible refine Wd.g_eqI ?_
  | with_reducible refine Wd.g_neI ?_
  | with_reducible refine Wd.g_eqS ?_
  | with_reducible refine Wd.g_neS ?_
  | with_reducible refine Wd.g_eqB ?_
  | with_reducible refine Wd.g_neB ?_
  | with_reducible refine Wd.g_isN ?_
  | with_reducible refine Wd.g_notN ?_
  | with_reducible refine Wd.g_lc ?_
  | with_reducible refine Wd.g_yes ?_
  | with_reducible refine Wd.g_test ?_
  | with_reducible refine Wd.g_tB ?_
  | with_reducible refine Wd.g_bl ?_
  | with_reducible refine Wd.g_blI ?_
  | with_reducible refine Wd.g_and ?_
  | with_reducible refine Wd.g_or ?_
  | with_reducible refine Wd.g_not ?_
  | with_reducible refine Wd.g_andV ?_
  | with_reducible refine Wd.g_orV ?_
  | with_reducible refine Wd.g_notV ?_
  | with_reducible refine Wd.g_if ?_
  | with_reducible refine Wd.g_chain ?_
  | with_reducible refine Wd.g_chain3 ?_
  | with_reducible refine Wd.g_nil ?_
  | with_reducible refine Wd.g_cons ?_
  | with_reducible refine Wd.g_tup ?_
  | with_reducible refine Wd.g_lst ?_
  | with_reducible refine Wd.g_CB ?_
  | with_reducible refine Wd.g_call ?_
  | with_reducible refine Wd.g_callS ?_
  | with_reducible refine Wd.g_bm ?_
  | with_reducible refine Wd.g_bm0 ?_
  | with_reducible refine Wd.g_sl ?_
  | with_reducible refine Wd.g_part ?_
  | with_reducible refine Wd.g_part1 ?_
  | with_reducible refine Wd.g_noPart ?_
  | with_reducible refine Wd.g_next ?_
  | with_reducible refine Wd.g_name ?_
  | with_reducible refine Wd.g_sub ?_
  | with_reducible refine Wd.g_gnil ?_
  | with_reducible refine Wd.g_gcons ?_
  | with_reducible refine Wd.g_drop ?_
  | with_reducible refine Wd.g_ret ?_
  | with_reducible refine Wd.g_retN ?_
  | with_reducible refine Wd.g_brk ?_
  | with_reducible refine Wd.g_cont ?_
  | ((with_reducible show L2.Ends.bk _ _ _); (with_reducible refine Wd.g_bk ?_))
  | ((with_reducible show L2.Ends.ct _ _ _); (with_reducible refine Wd.g_ct ?_))
  | ((with_reducible show L2.Ends.rt _ _ _); (with_reducible refine Wd.g_rt ?_))
  | with_reducible refine Wd.g_for ?_
  | with_reducible refine Wd.g_rng1 ?_
  | with_reducible refine Wd.g_rng2 ?_
  | with_reducible refine Wd.g_iList ?_
  | with_reducible refine Wd.g_iTup ?_
  | ((with_reducible refine Wd.g_fit ?h1 ?_); (case h1 => exact rfl))
  | with_reducible refine Wd.g_max2 ?_
  | with_reducible refine Wd.g_min2 ?_
  | with_reducible refine Wd.g_int1B ?_
  | with_reducible refine L2.iteT ?_
  | with_reducible refine L2.iteF ?_
  | ((with_reducible refine Wd.g_itT ?h1 ?_); (case h1 => exact rfl))
  | ((with_reducible refine Wd.g_itF ?h1 ?_); (case h1 => exact rfl))))
theorem ok_1 : PyData.strOk ("1" : Str) = true := by decide +kernel
theorem ok_2 : PyData.strOk ("2" : Str) = true := by decide +kernel
theorem units65 {k : Nat} {A : Around} (r : Room k A) : A.units + 65 < cLine := by have := r.un; omega
section
variable {X : Cx}
/-- any data in a tuple -/
def rInU (K : PySem.W.Frag) : R2 := fun x y H Q => ∃ d ds, Dp K H x d ∧ Dp K H y (.tuple ds) ∧ SeqAt.shaped d = true ∧ SeqAt.shaped (.tuple ds) = true ∧ Q (.bl (ds.any fun z => PyData.eqv z d)) H
theorem op_inU (hu : X.A.units + 65 < cLine) : OpR X (compareOp .In) (rInU X.K) := by
  intro pins s σ H x y v u Q I rx ry h
  obtain ⟨d, ds, hd, he, sd, se, q⟩ := h
  obtain ⟨as, r1⟩ := Dp.reads I d x v hd rx
  obtain ⟨bs, r2⟩ := Dp.reads I (.tuple ds) y u he ry
  exact SeqAt.in_tuple_reads r2 r1 (SeqAt.canLay_of_shaped se) (SeqAt.canLay_of_shaped sd) (room_in_shaped sd hu) ⟨.bl _, H, I, rfl, q⟩
end
theorem use_inU {K : PySem.W.Frag} {H : Hp} {v : V} {d : PyData} {t : Addr} {Q : VK} {n : Nat} (h : DA H v d) (s : Sh n d) (hn : n ≤ 64) (ht : H t = some (.tup [.str "row", .str "either"])) (q : Q (.bl (isW "row" d || isW "either" d)) H) : rInU K v (.ref t) H Q := by
  refine ⟨d, [.str "row", .str "either"], h.dp, .tup (SqT.of ht) (.cons (.str _) (.cons (.str _) .nil)), s.shaped hn, (Sh.two (n := 0) (.str ok_row) (.str ok_either)).shaped (by decide), ?_⟩
  have e : ∀ x : Str, PyData.eqv (.str x) d = isW x d := fun x => by
    cases h with
    | int i => simp [PyData.eqv, isW]
    | str y =>
      by_cases c : x = y
      · simp [PyData.eqv, isW, c]
      · have c' : ¬ y = x := fun z => c z.symm
        simp [PyData.eqv, isW, c, c']
    | tup _ _ => simp [PyData.eqv, isW]
  have : ([PyData.str "row", .str "either"].any fun z => PyData.eqv z d) = (isW "row" d || isW "either" d) := by
    rw [List.any_cons, List.any_cons, List.any_nil, e, e, Bool.or_false]
  rw [this]; exact q
theorem use_catA {K : PySem.W.Frag} {H : Hp} {a b : Addr} {xs ys : List V} {Q : VK} (ha : H a = some (.tup xs)) (hb : H b = some (.tup ys)) (hl : xs.length + ys.length ≤ 100000) (k : ∀ H' p, Same H H' → H' p = some (.tup (xs ++ ys)) → Q (.ref p) H') : rCatA K (.ref a) (.ref b) H Q := by
  refine ⟨a, b, xs, ys, rfl, rfl, SqT.of ha, SqT.of hb, Nat.le_trans hl (by decide), fun e => k H b (fun _ _ h => h) (by rw [e]; exact hb), fun _ e => k H a (fun _ _ h => h) (by rw [e, List.append_nil]; exact ha), fun _ _ p hp => k _ p (same_new hp) upd_same⟩
theorem cut_from {α : Type} (l : List α) (f : α → V) {a : Nat} (ha : a ≤ l.length) : cutV (l.map f) (some (a : Int)) none = (l.drop a).map f := by
  unfold cutV
  rw [HT.sIx_nat, HT.sIx_none, List.length_map, Nat.min_eq_left ha, ← List.map_drop, List.take_of_length_le (by rw [List.length_map, List.length_drop]; exact Nat.le_refl _)]
theorem cut_to {α : Type} (l : List α) (f : α → V) {b : Nat} (hb : b ≤ l.length) : cutV (l.map f) none (some (b : Int)) = (l.take b).map f := by
  unfold cutV
  rw [HT.sIx_nat, HT.sIx_none, List.length_map, Nat.min_eq_left hb, List.drop_zero, Nat.sub_zero, List.map_take]
theorem g_joinV {t : TE} {σ : L2.St} {H : Hp} {N : VK} (P : V → Hp → Prop) (key : ∀ x H, P x H → N x H) (h : ∀ N' : VK, (∀ x H, P x H → N' x H) → t σ H N') : t σ H N := h N key
/-- values that are data, so deep at the most -/
def Good (M : Nat) (H : Hp) (xs : List V) : Prop := ∀ x ∈ xs, ∃ d, DA H x d ∧ Sh M d
theorem Good.keep {M : Nat} {H H' : Hp} {xs : List V} (g : Good M H xs) (e : KeepT H H') : Good M H' xs := fun x hx => by
  obtain ⟨d, h1, h2⟩ := g x hx
  exact ⟨d, DA_keep e _ _ h1, h2⟩
theorem Good.nil {M : Nat} {H : Hp} : Good M H [] := fun x hx => by cases hx
theorem Good.snoc {M n : Nat} {H : Hp} {xs : List V} {v : V} {d : PyData} (g : Good M H xs) (h : DA H v d) (s : Sh n d) (l : n ≤ M) : Good M H (xs ++ [v]) := fun x hx => by
  rw [List.mem_append, List.mem_singleton] at hx
  rcases hx with hx | rfl
  · exact g x hx
  · exact ⟨d, h, s.mono l⟩
theorem Good.app {M : Nat} {H : Hp} {xs ys : List V} (g : Good M H xs) (h : Good M H ys) : Good M H (xs ++ ys) := fun x hx => by
  rw [List.mem_append] at hx
  rcases hx with hx | hx
  · exact g x hx
  · exact h x hx
section
variable {P : Program} {w : World} {K : PySem.W.Frag} {mg : Str → Option Value} {base : Heap}
abbrev s_law_turned : Stmt := top 51
theorem sc_law_turned : FnScope ["_law_state", "_law_plan_here", "_law_parts", "_law_at", "_law_last", "_law_some", "_law_deep", "_law_k"] ["_law_state", "_law_plan_here"] (C8.fnScope s_law_turned) := C8.fnScope_by (by decide +kernel)
def sp_turned (K : PySem.W.Frag) : Nat → Sp
  | 0 => fun _ _ _ _ => False
  | k + 1 => fun vs H Q _ => ∃ (B : Hp) (S : Addr) (v : V) (x : PyData) (ds : List PyData) (m : Nat), vs = [.ref S, v] ∧ Dst K B H S ∧ DA H v (.tuple (x :: ds)) ∧ Sh m (.tuple (x :: ds)) ∧ m ≤ k ∧ m ≤ 40 ∧ ∀ H' v' d', Frm S H H' → Dst K B H' S → DA H' v' d' → Sh (m + 12) d' → Q v' H'
theorem use_turned {k m : Nat} {B H : Hp} {S : Addr} {v : V} {d : PyData} {Q : VK} {E : XK} (hd : Dst K B H S) (h : DA H v d) (h1 : isTup d = true) (h2 : isNil d = false) (s : Sh m d) (l1 : m ≤ k) (l2 : m ≤ 40) (q : ∀ H' v' d', Frm S H H' → Dst K B H' S → DA H' v' d' → Sh (m + 12) d' → Q v' H') : sp_turned K (k + 1) ([.ref S, v] ++ []) H Q E := by
  cases h with
  | int _ => cases h1
  | str _ => cases h1
  | tup g1 g2 =>
    cases g2 with
    | nil => cases h2
    | cons g3 g4 => exact ⟨B, S, _, _, _, m, rfl, hd, .tup g1 (.cons g3 g4), s, l1, l2, q⟩
theorem turned_step (T : TxtP K mg) {k : Nat} {f : Addr} {fd : FuncData} (D : C8.Def K mg "_law_turned" s_law_turned f fd) (b : Binds K fd ["_law_state", "_law_plan_here"] []) (g_law_drawn : C8.Cal P w K mg base 1 "_law_drawn" (sp_drawn K) [])
    (g_law_turned : C8.Cal P w K mg base (k + 1) "_law_turned" (sp_turned K k) []) : C8.Cal P w K mg base (k + 2) "_law_turned" (sp_turned K (k + 1)) [] := by
  refine C8.cal0 D b .nil sc_law_turned (fun vs H Q E h => ?_) fun cdv A outer s H vs Q E hr h => ?_
  · obtain ⟨B, S, v, x, ds, m, rfl, _⟩ := h; rfl
  · obtain ⟨B, S, v, x, ds, m, rfl, dst, hd, sh, hmk, hm, q⟩ := h
    have nd := sc_law_turned.nd
    have hr : Room (k + 1) _ := hr
    refine ⟨_, (pss_cons (ps_set (i := 2) nd rfl (Or.inl rfl) (pe_ifExp (PW.pt (pw_and (pt_cmpR op_eq (pe_callB (r := Wd.rLen K) call_len1 (by rfl) T.n_len PySem.boot_len (pa_cons (pv 1) pa_nil)) pe_int (nomark _)) (pw_and1 (pt_val (pe_callB (r := rIsi K) call_isi (by rfl) T.n_isinstance (by decide +kernel) (pa_cons (pe_ix (r := rIxT K) ix_tup (pv 1) pe_int (fun _ _ => rfl)) (pa_cons (pe_bltn (v := .ty "tuple") (by rfl) T.n_tuple (by decide +kernel) rfl) pa_nil))))))) (pe_ix (r := rIxT K) ix_tup (pv 1) pe_int (fun _ _ => rfl)) (pe_tup pa_nil)))
      (pss_cons (ps_if (PW.pt (pw_and (pt_cmpR (r := rInU K) (op_inU (units65 hr)) (pe_ix (r := rIxT K) ix_tup (pv 1) pe_int (fun _ _ => rfl)) (pe_tup (pa_cons pe_str (pa_cons pe_str pa_nil))) (by with_unfolding_all rfl)) (pw_and (pt_cmpR (r := rNeD K) (op_neD hr.units) (pv 2) (pe_tup pa_nil) (nomark _)) (pw_and1 (pt_cmpR op_gt (C8.pe_c g_law_drawn hr (by first | decide | exact Nat.le_refl _ | omega) (by rfl) (pa_cons (pv 0) (pa_cons pe_int pa_nil))) pe_int (nomark _)))))) (pss_cons (ps_set (i := 3) nd rfl (Or.inl rfl) (C8.pe_c g_law_drawn hr (by first | decide | exact Nat.le_refl _ | omega) (by rfl) (pa_cons (pv 0) (pa_cons (pe_callB (r := Wd.rLen K) call_len1 (by rfl) T.n_len PySem.boot_len (pa_cons (pv 2) pa_nil)) pa_nil))))
      (pss_one (ps_if (PW.pt (pw_and (pt_val (pe_callB (r := rIsi K) call_isi (by rfl) T.n_isinstance (by decide +kernel) (pa_cons (pe_ix (r := rIxT K) ix_tup (pe_ix (r := rIxT K) ix_tup (pv 1) pe_int (fun _ _ => rfl)) (pv 3) (fun _ _ => rfl)) (pa_cons (pe_bltn (v := .ty "tuple") (by rfl) T.n_tuple (by decide +kernel) rfl) pa_nil)))) (pw_and1 (pt_cmpR (r := rNeD K) (op_neD hr.units) (pe_ix (r := rIxT K) ix_tup (pe_ix (r := rIxT K) ix_tup (pv 1) pe_int (fun _ _ => rfl)) (pv 3) (fun _ _ => rfl)) (pe_tup pa_nil) (nomark _))))) (pss_one (ps_ret (pe_tup (pa_cons (pe_ix (r := rIxT K) ix_tup (pv 1) pe_int (fun _ _ => rfl)) (pa_cons (pe_op (r := rCatA K) op_catA (pe_op (r := rCatA K) op_catA (pe_slice (r := rSlT K) sl_tup (pe_ix (r := rIxT K) ix_tup (pv 1) pe_int (fun _ _ => rfl)) po_none (po_some (pv 3))) (pe_tup (pa_cons (C8.pe_c g_law_turned hr (by first | decide | exact Nat.le_refl _ | omega) (by rfl) (pa_cons (pv 0) (pa_cons (pe_ix (r := rIxT K) ix_tup (pe_ix (r := rIxT K) ix_tup (pv 1) pe_int (fun _ _ => rfl)) (pv 3) (fun _ _ => rfl)) pa_nil))) pa_nil))) (pe_slice (r := rSlT K) sl_tup (pe_ix (r := rIxT K) ix_tup (pv 1) pe_int (fun _ _ => rfl)) (po_some (pe_op op_add (pv 3) pe_int)) po_none)) pa_nil))))) pss_nil))) pss_nil)
      (pss_cons (ps_set (i := 4) nd rfl (Or.inl rfl) (pe_ifExp (pt_cmpR op_eq (pe_callB (r := Wd.rLen K) call_len1 (by rfl) T.n_len PySem.boot_len (pa_cons (pv 1) pa_nil)) pe_int (nomark _)) (pe_ix (r := rIxT K) ix_tup (pv 1) pe_int (fun _ _ => rfl)) (pe_tup pa_nil)))
      (pss_cons (ps_if (PW.pt (pw_and (pt_cmpR (r := rEqD K) (op_eqD hr.units) (pe_ix (r := rIxT K) ix_tup (pv 1) pe_int (fun _ _ => rfl)) pe_str (nomark _)) (pw_and (pt_val (pe_callB (r := rIsi K) call_isi (by rfl) T.n_isinstance (by decide +kernel) (pa_cons (pv 4) (pa_cons (pe_bltn (v := .ty "tuple") (by rfl) T.n_tuple (by decide +kernel) rfl) pa_nil)))) (pw_and (pt_cmpR (r := rNeD K) (op_neD hr.units) (pv 4) (pe_tup pa_nil) (nomark _)) (pw_and1 (pt_cmpR op_gt (C8.pe_c g_law_drawn hr (by first | decide | exact Nat.le_refl _ | omega) (by rfl) (pa_cons (pv 0) (pa_cons pe_int pa_nil))) pe_int (nomark _))))))) (pss_one (ps_ret (pe_op (r := rCatA K) op_catA (pe_slice (r := rSlT K) sl_tup (pv 1) po_none (po_some pe_int)) (pe_tup (pa_cons (C8.pe_c g_law_turned hr (by first | decide | exact Nat.le_refl _ | omega) (by rfl) (pa_cons (pv 0) (pa_cons (pv 4) pa_nil))) pa_nil))))) pss_nil)
      (pss_cons (ps_set (i := 5) nd rfl (Or.inl rfl) (pe_lst (pa_cons (pe_tup pa_nil) (pa_cons (pe_tup (pa_cons pe_str pa_nil)) (pa_cons (pe_tup (pa_cons pe_str (pa_cons pe_int pa_nil))) (pa_cons (pe_tup (pa_cons pe_str (pa_cons (pe_op op_sub pe_int pe_int) (pa_cons pe_int pa_nil)))) (pa_cons (pe_tup (pa_cons pe_str (pa_cons pe_int (pa_cons pe_int pa_nil)))) (pa_cons (pe_tup (pa_cons pe_str (pa_cons pe_int (pa_cons pe_int pa_nil)))) (pa_cons (pe_tup (pa_cons pe_str (pa_cons pe_int pa_nil))) (pa_cons (pe_tup (pa_cons pe_str (pa_cons (pe_tup pa_nil) pa_nil))) pa_nil))))))))))
      (pss_cons (ps_set (i := 5) nd rfl (Or.inl rfl) (pe_op op_cat (pv 5) (pe_lst (pa_cons (pe_tup (pa_cons pe_str (pa_cons (pe_op (r := rRepU K) op_repU (pe_tup (pa_cons (pv 1) pa_nil)) pe_int) pa_nil))) (pa_cons (pe_tup (pa_cons pe_str (pa_cons (pe_tup pa_nil) pa_nil))) (pa_cons (pe_tup (pa_cons pe_str (pa_cons (pe_op (r := rRepU K) op_repU (pe_tup (pa_cons (pv 1) pa_nil)) pe_int) pa_nil))) (pa_cons (pe_tup (pa_cons pe_str (pa_cons pe_int (pa_cons pe_int (pa_cons (pv 1) pa_nil))))) pa_nil)))))))
      (pss_cons (ps_expr (pe_bmK (K := K) rfl PySem.F.plainAttrs_list PySem.F.slot_list_append PySem.F.type_list_append mt_append (pv 5) (pa_cons (pe_tup (pa_cons pe_str (pa_cons pe_int (pa_cons pe_int (pa_cons (pv 1) pa_nil))))) pa_nil)))
      (pss_cons (ps_set (i := 5) nd rfl (Or.inl rfl) (pe_op op_cat (pv 5) (pe_lst (pa_cons (pe_tup (pa_cons pe_str (pa_cons (pe_op op_sub pe_int pe_int) (pa_cons pe_int (pa_cons (pv 1) pa_nil))))) (pa_cons (pe_tup (pa_cons pe_str (pa_cons pe_int (pa_cons pe_int (pa_cons (pv 1) pa_nil))))) (pa_cons (pe_tup (pa_cons pe_str (pa_cons pe_int (pa_cons pe_int (pa_cons (pe_tup (pa_cons pe_str (pa_cons pe_int (pa_cons pe_int (pa_cons (pv 1) pa_nil))))) pa_nil))))) pa_nil))))))
      (pss_cons (ps_expr (pe_bmK (K := K) rfl PySem.F.plainAttrs_list PySem.F.slot_list_append PySem.F.type_list_append mt_append (pv 5) (pa_cons (pe_tup (pa_cons pe_str (pa_cons pe_int (pa_cons (pv 1) pa_nil)))) pa_nil)))
      (pss_cons (ps_set (i := 5) nd rfl (Or.inl rfl) (pe_op op_cat (pv 5) (pe_lst (pa_cons (pe_tup (pa_cons pe_str (pa_cons pe_str (pa_cons pe_int pa_nil)))) (pa_cons (pe_tup (pa_cons pe_str (pa_cons pe_int (pa_cons pe_str pa_nil)))) (pa_cons pe_str (pa_cons pe_int (pa_cons (pe_tup (pa_cons pe_int pa_nil)) (pa_cons (pe_tup (pa_cons pe_str (pa_cons (pv 1) pa_nil))) (pa_cons (pe_tup (pa_cons pe_str (pa_cons (pe_tup (pa_cons pe_str pa_nil)) pa_nil))) pa_nil))))))))))
      (pss_cons (ps_expr (pe_bmK (K := K) rfl PySem.F.plainAttrs_list PySem.F.slot_list_append PySem.F.type_list_append mt_append (pv 5) (pa_cons (pe_tup (pa_cons pe_str (pa_cons pe_int (pa_cons pe_int pa_nil)))) pa_nil)))
      (pss_cons (ps_set (i := 6) nd rfl (Or.inl rfl) (pv 1))
      (pss_cons (ps_for PassesOwn.never rfl (pi_range1 rfl T.n_range (pa_cons (pe_op op_add pe_int (C8.pe_c g_law_drawn hr (by first | decide | exact Nat.le_refl _ | omega) (by rfl) (pa_cons (pv 0) (pa_cons pe_int pa_nil)))) pa_nil)) (pg_name (i := 7) nd rfl (Or.inl rfl)) (pss_one (ps_set (i := 6) nd rfl (Or.inl rfl) (pe_tup (pa_cons pe_str (pa_cons (pe_tup (pa_cons (pv 6) pa_nil)) pa_nil))))))
      (pss_one (ps_ret (pe_ix (r := rIxL K) ix_list (pe_op op_cat (pv 5) (pe_lst (pa_cons (pv 6) (pa_cons (pe_tup (pa_cons pe_str (pa_cons (pe_op (r := rRepU K) op_repU (pe_tup (pa_cons (pe_tup (pa_cons pe_str (pa_cons (pe_op (r := rRepU K) op_repU (pe_tup (pa_cons (pv 1) pa_nil)) pe_int) pa_nil))) pa_nil)) pe_int) pa_nil))) pa_nil)))) (C8.pe_c g_law_drawn hr (by first | decide | exact Nat.le_refl _ | omega) (by rfl) (pa_cons (pv 0) (pa_cons pe_int pa_nil))) (fun _ _ => rfl))))))))))))))))), ?_⟩
    cases hd with
    | @tup a vs _ ha hs =>
    cases hs with
    | @cons v0 vr _ _ h0 hr' =>
    have hd : DA H (.ref a) (.tuple (x :: ds)) := .tup ha (.cons h0 hr')
    have lr := hr'.len
    have lds := sh.len
    obtain ⟨m, rfl, sin⟩ : ∃ m', m = m' + 1 ∧ ∀ d ∈ x :: ds, Sh m' d := by cases sh with | tup _ g => exact ⟨_, rfl, g⟩
    refine Wd.g_seq ?_
    refine Wd.g_asg ?_
    refine g_joinV (fun x1 H1 => ∃ (vp : V) (pd : List PyData), x1 = vp ∧ Same H H1 ∧ DA H1 vp (.tuple pd) ∧ Sh (m + 1) (.tuple pd) ∧ (pd ≠ [] → ds = [.tuple pd] ∧ vr = [vp])) ?_ ?_
    case refine_2 =>
      intro N' hk
      have nil : ∀ t, H t = none → N' (.ref t) (upd H t (.tup [])) := fun t ht => hk _ _ ⟨_, [], rfl, same_new ht, .tup upd_same .nil, .tup (by decide) (by intro d hd; cases hd), fun z => absurd rfl z⟩
      walk_at "go"
      refine g_len (.inr (SqT.of ha)) ?_
      walk_at "go"
      refine g_ite (fun hl => ?_) (fun hl => ?_)
      · have l1 : ds.length = 1 := by rw [List.length_cons, lr] at hl; omega
        obtain ⟨y, rfl⟩ : ∃ y, ds = [y] := by match ds, l1 with | [y], _ => exact ⟨y, rfl⟩
        cases hr' with
        | @cons vy _ _ _ hy hr2 =>
          cases hr2
          walk_at "go"
          refine g_ixT (SqT.of ha) rfl ?_
          walk_at "go"
          refine use_isT hy ?_
          cases hy with
          | int i =>
            walk_at "go"
            intro t ht
            exact nil t ht
          | str i =>
            walk_at "go"
            intro t ht
            exact nil t ht
          | @tup b us pd g1 g2 =>
            walk_at "go"
            refine g_ixT (SqT.of ha) rfl ?_
            exact hk _ _ ⟨_, pd, rfl, fun _ _ h => h, .tup g1 g2, (sin _ (List.mem_cons_of_mem _ List.mem_cons_self)).up, fun _ => ⟨rfl, rfl⟩⟩
      · walk_at "go"
        intro t ht
        exact nil t ht
    rintro vp H1 ⟨_, pd, rfl, s1, dp, shp, pdn⟩
    have d1 := dst.same s1
    have ha1 := s1 _ _ ha
    have h01 := DA_keep (keepT_same s1) _ _ h0
    have hr1 := DAs_keep (keepT_same s1) _ _ hr'
    have shx : Sh m x := sin _ List.mem_cons_self
    walk_at "gs"
    refine g_join (fun σ H' => ∃ v3 : Option V, σ = [some (.ref S), some (.ref a), some vp, v3, none, none, none, none] ∧ Frm S H1 H' ∧ Dst K B H' S) ?_ ?_
    case refine_2 =>
      intro N' hk
      walk_at "go"
      refine g_ixT (SqT.of ha1) (at_of (j := 0) rfl rfl) ?_
      walk_at "go"
      intro t2 ht2
      have s2 := same_new (o := .tup [.str "row", .str "either"]) ht2
      refine use_inU (DA_keep (keepT_same s2) _ _ h01) shx (by omega) upd_same ?_
      generalize upd H1 t2 (.tup [.str "row", .str "either"]) = H2 at s2
      cases hb : (isW "row" x || isW "either" x) with
      | false =>
        walk_at "go"
        exact hk _ _ ⟨none, rfl, .of s2, d1.same s2⟩
      | true =>
        walk_at "go"
        intro t3 ht3
        have s3 := s2.trans (same_new (o := .tup []) ht3)
        refine use_neN (DA_keep (keepT_same s3) _ _ dp) shp (by omega) upd_same ?_
        generalize upd H2 t3 (.tup []) = H3 at s3
        have d3 := d1.same s3
        have dp3 := DA_keep (keepT_same s3) _ _ dp
        cases pd with
        | nil =>
          walk_at "go"
          exact hk _ _ ⟨none, rfl, .of s3, d3⟩
        | cons y0 ys =>
        obtain ⟨rfl, rfl⟩ := pdn (List.cons_ne_nil _ _)
        have shm : Sh m (.tuple (y0 :: ys)) := sin _ (List.mem_cons_of_mem _ List.mem_cons_self)
        walk_at "go"
        refine use_drawn (n := 3) d3 (by decide) (by decide) fun H4 z1 f4 d4 _ _ => ?_
        walk_at "go"
        refine g_ite (fun _ => ?_) (fun _ => ?_)
        case refine_2 =>
          walk_at "go"
          exact hk _ _ ⟨none, rfl, (Frm.of s3).trans f4, d4⟩
        have dp4 := DA_keep (keepT_frm d3 f4) _ _ dp3
        have lpd := shm.len
        cases dp4 with
        | @tup b us _ gb gus =>
        have lus := gus.len
        walk_at "go"
        refine g_len (.inr (SqT.of gb)) ?_
        walk_at "go"
        rw [List.length_cons] at lus lpd
        refine use_drawn (n := (us.length : Int)) d4 (by omega) (by omega) fun H5 z f5 d5 z0 z1 => ?_
        obtain ⟨j, rfl⟩ : ∃ j : Nat, z = j := ⟨z.toNat, by omega⟩
        have jl : j < (y0 :: ys).length := by rw [List.length_cons]; omega
        have f15 : Frm S H1 H5 := ((Frm.of s3).trans f4).trans f5
        have k15 := keepT_frm d1 f15
        have ha5 := k15 _ _ ha1
        have gb5 := keepT_frm d4 f5 _ _ gb
        have gus5 := DAs_keep (keepT_frm d4 f5) _ _ gus
        obtain ⟨vy, hvy, gy⟩ := gus5.at (List.getElem?_eq_getElem jl)
        generalize hy : (y0 :: ys)[j] = y at gy
        have ym : y ∈ y0 :: ys := by rw [← hy]; exact List.getElem_mem jl
        obtain ⟨m2, rfl, shy⟩ := shm.in ym
        have atj : atI us (j : Int) = some vy := at_of (j := j) rfl hvy
        walk_at "go"
        refine g_ixT (SqT.of ha5) rfl ?_
        walk_at "go"
        refine g_ixT (SqT.of gb5) atj ?_
        walk_at "go"
        refine use_isT gy ?_
        cases hT : isTup y with
        | false =>
          walk_at "go"
          exact hk _ _ ⟨_, rfl, f15, d5⟩
        | true =>
        walk_at "go"
        refine g_ixT (SqT.of ha5) rfl ?_
        walk_at "go"
        refine g_ixT (SqT.of gb5) atj ?_
        walk_at "go"
        intro t6 ht6
        have s6 := same_new (o := .tup []) ht6
        refine use_neN (DA_keep (keepT_same s6) _ _ gy) shy (by omega) upd_same ?_
        generalize upd H5 t6 (.tup []) = H6 at s6
        have d6 := d5.same s6
        have f16 := f15.trans (.of s6)
        cases hN : isNil y with
        | true =>
          walk_at "go"
          exact hk _ _ ⟨_, rfl, f16, d6⟩
        | false =>
        have ha6 := s6 _ _ ha5
        have gb6 := s6 _ _ gb5
        have gus6 := DAs_keep (keepT_same s6) _ _ gus5
        have gy6 := DA_keep (keepT_same s6) _ _ gy
        walk_at "go"
        refine g_ixT (SqT.of ha6) rfl ?_
        walk_at "go"
        refine g_ixT (SqT.of ha6) rfl ?_
        walk_at "go"
        have jl2 : j < us.length := by omega
        refine ⟨b, us, rfl, SqT.of gb6, ?_, fun p hp => ?_⟩
        · rw [HT.sIx_nat, HT.sIx_none]
          omega
        have ec : cutV us none (some (j : Int)) = us.take j := by
          have := cut_to us (fun v => v) (b := j) (by omega)
          rw [List.map_id', List.map_id'] at this
          exact this
        rw [ec]
        have s7 := same_new (o := .tup (us.take j)) hp
        have e7 := upd_same (H := H6) (a := p) (o := .tup (us.take j))
        have np : p ≠ S := d6.ne hp
        generalize upd H6 p (.tup (us.take j)) = H7 at s7 e7
        have d7 := d6.same s7
        have ha7 := s7 _ _ ha6
        have gb7 := s7 _ _ gb6
        walk_at "go"
        refine g_ixT (SqT.of ha7) rfl ?_
        walk_at "go"
        refine g_ixT (SqT.of gb7) atj ?_
        walk_at "go"
        obtain ⟨k, rfl⟩ : ∃ k', k = k' + 1 := ⟨k - 1, by omega⟩
        refine use_turned d7 (DA_keep (keepT_same s7) _ _ gy6) hT hN shy (by omega) (by omega) fun H8 v8 y8 f8 d8 g8 sh8 => ?_
        have k68 : KeepT H6 H8 := (keepT_same s7).trans (keepT_frm d7 f8)
        walk_at "go"
        intro p9 hp9
        have s9 := same_new (o := .tup [v8]) hp9
        have e9 := upd_same (H := H8) (a := p9) (o := .tup [v8])
        have e79 := s9 _ _ (f8 _ _ np e7)
        have k69 := k68.trans (keepT_same s9)
        have f69 : Frm S H6 (upd H8 p9 (.tup [v8])) := ((Frm.of s7).trans f8).trans (.of s9)
        have d9 := d8.same s9
        have g9 := DA_keep (keepT_same s9) _ _ g8
        generalize upd H8 p9 (.tup [v8]) = H9 at s9 e9 e79 k69 f69 d9 g9
        refine use_catA e79 e9 (by rw [List.length_take, List.length_singleton]; omega) fun H10 p10 s10 e10 => ?_
        walk_at "go"
        refine g_ixT (SqT.of (s10 _ _ (k69 _ _ ha6))) rfl ?_
        walk_at "go"
        refine ⟨b, us, rfl, SqT.of (s10 _ _ (k69 _ _ gb6)), ?_, fun p11 hp11 => ?_⟩
        · rw [show (j : Int) + 1 = ((j + 1 : Nat) : Int) from rfl, HT.sIx_nat]
          omega
        have ec2 : cutV us (some ((j : Int) + 1)) none = us.drop (j + 1) := by
          have := cut_from us (fun v => v) (a := j + 1) (by omega)
          rw [List.map_id', List.map_id'] at this
          exact this
        rw [ec2]
        have s11 := s10.trans (same_new (o := .tup (us.drop (j + 1))) hp11)
        have e11 := upd_same (H := H10) (a := p11) (o := .tup (us.drop (j + 1)))
        have e101 := same_new (o := .tup (us.drop (j + 1))) hp11 _ _ e10
        generalize upd H10 p11 (.tup (us.drop (j + 1))) = H11 at s11 e11 e101
        refine use_catA e101 e11 (by rw [List.length_append, List.length_take, List.length_singleton, List.length_drop]; omega) fun H12 p12 s12 e12 => ?_
        walk_at "go"
        intro p13 hp13
        have s13 := (s11.trans s12).trans (same_new (o := .tup [v0, .ref p12]) hp13)
        have e13 := upd_same (H := H12) (a := p13) (o := .tup [v0, .ref p12])
        have e123 := same_new (o := .tup [v0, .ref p12]) hp13 _ _ e12
        generalize upd H12 p13 (.tup [v0, .ref p12]) = H13 at s13 e13 e123
        have k613 := k69.trans (keepT_same s13)
        have g13 := DA_keep (keepT_same s13) _ _ g9
        have gu13 := DAs_keep k613 _ _ gus6
        have h013 := DA_keep ((keepT_frm d1 f16).trans k613) _ _ h01
        refine q H13 (.ref p13) (.tuple [x, .tuple ((y0 :: ys).take j ++ [y8] ++ (y0 :: ys).drop (j + 1))]) (((Frm.of s1).trans f16).trans (f69.trans (.of s13))) (d9.same s13) (.tup e13 (.cons h013 (.cons (.tup e123 (((gu13.take j).app (.cons g13 .nil)).app (gu13.drop (j + 1)))) .nil))) ?_
        rw [show m2 + 1 + 1 + 12 = (m2 + 12 + 1) + 1 by omega]
        refine .two (shx.mono (by omega)) (.tup ?_ fun e he => ?_)
        · rw [List.length_append, List.length_append, List.length_take, List.length_singleton, List.length_drop, List.length_cons]; omega
        · have hin : ∀ e ∈ y0 :: ys, Sh (m2 + 12) e := fun e he => by
            obtain ⟨m3, e3, sh3⟩ := shm.in he
            have : m3 = m2 := by omega
            subst this
            exact sh3.mono (by omega)
          rw [List.mem_append, List.mem_append, List.mem_singleton] at he
          rcases he with (he | rfl) | he
          · exact hin e (List.mem_of_mem_take he)
          · exact sh8
          · exact hin e (List.mem_of_mem_drop he)
    rintro σ H2 ⟨v3, rfl, f2, d2⟩
    have k2 := keepT_frm d1 f2
    have ha2 := k2 _ _ ha1
    have h02 := DA_keep k2 _ _ h01
    have hr2 := DAs_keep k2 _ _ hr1
    have f02 : Frm S H H2 := (Frm.of s1).trans f2
    clear k2 ha1 h01 hr1 d1 s1 f2 dp shp pdn ha hr' h0 hd
    refine Wd.g_seq ?_
    refine Wd.g_asg ?_
    have hd2 : DAs H2 (v0 :: vr) (x :: ds) := .cons h02 hr2
    refine g_joinV (fun x1 H3 => ∃ (vl : V) (dl : PyData), x1 = vl ∧ Same H2 H3 ∧ DA H3 vl dl ∧ Sh (m + 1) dl ∧ (isNil dl = false → isTup dl = true → ds.length = 3 ∧ Sh m dl)) ?_ ?_
    case refine_2 =>
      intro N' hk
      walk_at "go"
      refine g_len (.inr (SqT.of ha2)) ?_
      walk_at "go"
      refine g_ite (fun hl => ?_) (fun hl => ?_)
      · have l3 : ds.length = 3 := by rw [List.length_cons, lr] at hl; omega
        have l4 : 3 < (x :: ds).length := by rw [List.length_cons]; omega
        obtain ⟨vl, hvl, gl⟩ := hd2.at (List.getElem?_eq_getElem l4)
        have ym : (x :: ds)[3] ∈ x :: ds := List.getElem_mem l4
        walk_at "go"
        refine g_ixT (SqT.of ha2) (at_of (j := 3) rfl hvl) ?_
        exact hk _ _ ⟨_, _, rfl, fun _ _ h => h, gl, (sin _ ym).up, fun _ _ => ⟨l3, sin _ ym⟩⟩
      · walk_at "go"
        intro t ht
        exact hk _ _ ⟨_, .tuple [], rfl, same_new ht, .tup upd_same .nil, .tup (by decide) (by intro d hd; cases hd), fun z => by cases z⟩
    rintro vl H3 ⟨_, dl, rfl, s3, gl, shl, last⟩
    have d3 := d2.same s3
    have ha3 := s3 _ _ ha2
    have hd3 := DAs_keep (keepT_same s3) _ _ hd2
    have f03 := f02.trans (.of s3)
    clear ha2 hd2 h02 hr2 s3 d2 f02
    walk_at "gs"
    refine g_join (fun σ H' => σ = [some (.ref S), some (.ref a), some vp, v3, some vl, none, none, none] ∧ Frm S H3 H' ∧ Dst K B H' S) ?_ ?_
    case refine_2 =>
      intro N' hk
      cases hd3 with
      | cons h03 hr3 =>
      walk_at "go"
      refine g_ixT (SqT.of ha3) (at_of (j := 0) rfl rfl) ?_
      walk_at "go"
      refine use_eqW h03 shx (by omega) ok_loop ?_
      cases hw : isW "loop" x with
      | false =>
        walk_at "go"
        exact hk _ _ ⟨rfl, .refl _ _, d3⟩
      | true =>
      walk_at "go"
      refine use_isT gl ?_
      cases hT : isTup dl with
      | false =>
        walk_at "go"
        exact hk _ _ ⟨rfl, .refl _ _, d3⟩
      | true =>
      walk_at "go"
      intro t4 ht4
      have s4 := same_new (o := .tup []) ht4
      refine use_neN (DA_keep (keepT_same s4) _ _ gl) shl (by omega) upd_same ?_
      generalize upd H3 t4 (.tup []) = H4 at s4
      have d4 := d3.same s4
      cases hN : isNil dl with
      | true =>
        walk_at "go"
        exact hk _ _ ⟨rfl, .of s4, d4⟩
      | false =>
      obtain ⟨l3, shm⟩ := last hN hT
      walk_at "go"
      refine use_drawn (n := 3) d4 (by decide) (by decide) fun H5 z1 f5 d5 _ _ => ?_
      have f35 := (Frm.of s4).trans f5
      walk_at "go"
      refine g_ite (fun _ => ?_) (fun _ => ?_)
      case refine_2 =>
        walk_at "go"
        exact hk _ _ ⟨rfl, f35, d5⟩
      have k35 := keepT_frm d3 f35
      have ha5 := k35 _ _ ha3
      have gl5 := DA_keep k35 _ _ gl
      have h05 := DA_keep k35 _ _ h03
      have hr5 := DAs_keep k35 _ _ hr3
      have lv : (v0 :: vr).length = 4 := by rw [List.length_cons]; omega
      walk_at "go"
      refine ⟨a, _, rfl, SqT.of ha5, ?_, fun p hp => ?_⟩
      · rw [lv]; decide
      have ec : cutV (v0 :: vr) none (some (3 : Int)) = (v0 :: vr).take 3 := by
        have := cut_to (v0 :: vr) (fun v => v) (b := 3) (by omega)
        rw [List.map_id', List.map_id'] at this
        exact this
      rw [ec]
      have s6 := same_new (o := .tup ((v0 :: vr).take 3)) hp
      have e6 := upd_same (H := H5) (a := p) (o := .tup ((v0 :: vr).take 3))
      have np : p ≠ S := d5.ne hp
      generalize upd H5 p (.tup ((v0 :: vr).take 3)) = H6 at s6 e6
      have d6 := d5.same s6
      walk_at "go"
      obtain ⟨k, rfl⟩ : ∃ k', k = k' + 1 := by
        cases hm0 : k with
        | succ k => exact ⟨k, rfl⟩
        | zero =>
          exfalso
          have m0 : m = 0 := by omega
          subst m0
          cases shm with
          | int _ => cases hT
          | str _ => cases hT
      refine use_turned d6 (DA_keep (keepT_same s6) _ _ gl5) hT hN shm (by omega) (by omega) fun H7 v7 y7 f7 d7 g7 sh7 => ?_
      walk_at "go"
      intro p8 hp8
      have s8 := same_new (o := .tup [v7]) hp8
      have e8 := upd_same (H := H7) (a := p8) (o := .tup [v7])
      have e68 := s8 _ _ (f7 _ _ np e6)
      have f58 : Frm S H5 (upd H7 p8 (.tup [v7])) := ((Frm.of s6).trans f7).trans (.of s8)
      have d8 := d7.same s8
      have g8 := DA_keep (keepT_same s8) _ _ g7
      generalize upd H7 p8 (.tup [v7]) = H8 at s8 e8 e68 f58 d8 g8
      refine use_catA e68 e8 (by rw [List.length_take, List.length_singleton]; omega) fun H9 p9 s9 e9 => ?_
      have f59 := f58.trans (.of s9)
      have k59 := keepT_frm d5 f59
      walk_at "go"
      have hda : DAs H9 ((v0 :: vr).take 3 ++ [v7]) ((x :: ds).take 3 ++ [y7]) := ((DAs.cons (DA_keep k59 _ _ h05) (DAs_keep k59 _ _ hr5)).take 3).app (.cons (DA_keep (keepT_same s9) _ _ g8) .nil)
      refine q H9 (.ref p9) (.tuple ((x :: ds).take 3 ++ [y7])) (f03.trans (f35.trans f59)) (d8.same s9) (.tup e9 hda) ?_
      rw [show m + 1 + 12 = (m + 12) + 1 by omega]
      refine .tup (by rw [List.length_append, List.length_take, List.length_singleton]; omega) fun e he => ?_
      rw [List.mem_append, List.mem_singleton] at he
      rcases he with he | rfl
      · exact (sin e (List.mem_of_mem_take he)).mono (by omega)
      · exact sh7
    rintro σ H4 ⟨rfl, f4, d4⟩
    have k4 := keepT_frm d3 f4
    have P : DA H4 (.ref a) (.tuple (x :: ds)) := .tup (k4 _ _ ha3) (DAs_keep k4 _ _ hd3)
    have f04 := f03.trans f4
    have shP : Sh (m + 1) (.tuple (x :: ds)) := sh
    clear k4 ha3 hd3 f4 f03 d3 gl shl last sin shx lr lds
    generalize hp : V.ref a = v at P ⊢
    generalize PyData.tuple (x :: ds) = d at P shP
    clear hp sh
    have D := d4
    have F := f04
    clear d4 f04
    walk_at "go"
    have Gy : Good (m + 13) H4 [] := Good.nil
    intro a11 h11
    have s11 := same_new (o := .tup []) h11
    have c11 : DA (upd H4 a11 (.tup [])) (.ref a11) (.tuple []) := .tup upd_same .nil
    replace P := DA_keep (keepT_same s11) _ _ P
    replace D := D.same s11
    replace F := F.trans (.of s11)
    replace Gy := Gy.keep (keepT_same s11)
    generalize upd H4 a11 (.tup []) = H11 at s11 P D F Gy c11
    clear s11 h11
    walk_at "go"
    replace Gy : Good (m + 13) H11 [.ref a11] := Gy.snoc c11 (Sh.tup (n := 0) (ds := []) (by decide) (by intro d hd; cases hd)) (by omega)
    clear c11
    intro a12 h12
    have s12 := same_new (o := .tup [.str "pats"]) h12
    have c12 : DA (upd H11 a12 (.tup [.str "pats"])) (.ref a12) (.tuple [.str "pats"]) := .tup upd_same (.cons (.str _) .nil)
    replace P := DA_keep (keepT_same s12) _ _ P
    replace D := D.same s12
    replace F := F.trans (.of s12)
    replace Gy := Gy.keep (keepT_same s12)
    generalize upd H11 a12 (.tup [.str "pats"]) = H12 at s12 P D F Gy c12
    clear s12 h12
    walk_at "go"
    replace Gy : Good (m + 13) H12 [.ref a11, .ref a12] := Gy.snoc c12 (Sh.one (n := 0) (.str ok_pats)) (by omega)
    clear c12
    intro a13 h13
    have s13 := same_new (o := .tup [.str "pat", .int 1]) h13
    have c13 : DA (upd H12 a13 (.tup [.str "pat", .int 1])) (.ref a13) (.tuple [.str "pat", .int 1]) := .tup upd_same (.cons (.str _) (.cons (.int _) .nil))
    replace P := DA_keep (keepT_same s13) _ _ P
    replace D := D.same s13
    replace F := F.trans (.of s13)
    replace Gy := Gy.keep (keepT_same s13)
    generalize upd H12 a13 (.tup [.str "pat", .int 1]) = H13 at s13 P D F Gy c13
    clear s13 h13
    walk_at "go"
    replace Gy : Good (m + 13) H13 [.ref a11, .ref a12, .ref a13] := Gy.snoc c13 (Sh.two (n := 0) (.str ok_pat) (.int _)) (by omega)
    clear c13
    intro a14 h14
    have s14 := same_new (o := .tup [.str "work", .int (0 - 1), .int 1]) h14
    have c14 : DA (upd H13 a14 (.tup [.str "work", .int (0 - 1), .int 1])) (.ref a14) (.tuple [.str "work", .int (0 - 1), .int 1]) := .tup upd_same (.cons (.str _) (.cons (.int _) (.cons (.int _) .nil)))
    replace P := DA_keep (keepT_same s14) _ _ P
    replace D := D.same s14
    replace F := F.trans (.of s14)
    replace Gy := Gy.keep (keepT_same s14)
    generalize upd H13 a14 (.tup [.str "work", .int (0 - 1), .int 1]) = H14 at s14 P D F Gy c14
    clear s14 h14
    walk_at "go"
    replace Gy : Good (m + 13) H14 [.ref a11, .ref a12, .ref a13, .ref a14] := Gy.snoc c14 (Sh.three (n := 0) (.str ok_work) (.int _) (.int _)) (by omega)
    clear c14
    intro a15 h15
    have s15 := same_new (o := .tup [.str "work", .int 2, .int 1]) h15
    have c15 : DA (upd H14 a15 (.tup [.str "work", .int 2, .int 1])) (.ref a15) (.tuple [.str "work", .int 2, .int 1]) := .tup upd_same (.cons (.str _) (.cons (.int _) (.cons (.int _) .nil)))
    replace P := DA_keep (keepT_same s15) _ _ P
    replace D := D.same s15
    replace F := F.trans (.of s15)
    replace Gy := Gy.keep (keepT_same s15)
    generalize upd H14 a15 (.tup [.str "work", .int 2, .int 1]) = H15 at s15 P D F Gy c15
    clear s15 h15
    walk_at "go"
    replace Gy : Good (m + 13) H15 [.ref a11, .ref a12, .ref a13, .ref a14, .ref a15] := Gy.snoc c15 (Sh.three (n := 0) (.str ok_work) (.int _) (.int _)) (by omega)
    clear c15
    intro a16 h16
    have s16 := same_new (o := .tup [.str "work", .int 0, .int 1001]) h16
    have c16 : DA (upd H15 a16 (.tup [.str "work", .int 0, .int 1001])) (.ref a16) (.tuple [.str "work", .int 0, .int 1001]) := .tup upd_same (.cons (.str _) (.cons (.int _) (.cons (.int _) .nil)))
    replace P := DA_keep (keepT_same s16) _ _ P
    replace D := D.same s16
    replace F := F.trans (.of s16)
    replace Gy := Gy.keep (keepT_same s16)
    generalize upd H15 a16 (.tup [.str "work", .int 0, .int 1001]) = H16 at s16 P D F Gy c16
    clear s16 h16
    walk_at "go"
    replace Gy : Good (m + 13) H16 [.ref a11, .ref a12, .ref a13, .ref a14, .ref a15, .ref a16] := Gy.snoc c16 (Sh.three (n := 0) (.str ok_work) (.int _) (.int _)) (by omega)
    clear c16
    intro a17 h17
    have s17 := same_new (o := .tup [.str "work", .int 1]) h17
    have c17 : DA (upd H16 a17 (.tup [.str "work", .int 1])) (.ref a17) (.tuple [.str "work", .int 1]) := .tup upd_same (.cons (.str _) (.cons (.int _) .nil))
    replace P := DA_keep (keepT_same s17) _ _ P
    replace D := D.same s17
    replace F := F.trans (.of s17)
    replace Gy := Gy.keep (keepT_same s17)
    generalize upd H16 a17 (.tup [.str "work", .int 1]) = H17 at s17 P D F Gy c17
    clear s17 h17
    walk_at "go"
    replace Gy : Good (m + 13) H17 [.ref a11, .ref a12, .ref a13, .ref a14, .ref a15, .ref a16, .ref a17] := Gy.snoc c17 (Sh.two (n := 0) (.str ok_work) (.int _)) (by omega)
    clear c17
    intro a18 h18
    have s18 := same_new (o := .tup []) h18
    have c18 : DA (upd H17 a18 (.tup [])) (.ref a18) (.tuple []) := .tup upd_same .nil
    replace P := DA_keep (keepT_same s18) _ _ P
    replace D := D.same s18
    replace F := F.trans (.of s18)
    replace Gy := Gy.keep (keepT_same s18)
    generalize upd H17 a18 (.tup []) = H18 at s18 P D F Gy c18
    clear s18 h18
    walk_at "go"
    intro a19 h19
    have s19 := same_new (o := .tup [.str "row", .ref a18]) h19
    have c19 : DA (upd H18 a19 (.tup [.str "row", .ref a18])) (.ref a19) (.tuple [.str "row", (.tuple [])]) := .tup upd_same (.cons (.str _) (.cons ((DA_keep (keepT_same s19) _ _ c18)) .nil))
    replace P := DA_keep (keepT_same s19) _ _ P
    replace D := D.same s19
    replace F := F.trans (.of s19)
    replace Gy := Gy.keep (keepT_same s19)
    generalize upd H18 a19 (.tup [.str "row", .ref a18]) = H19 at s19 P D F Gy c19
    clear s19 h19
    clear c18
    walk_at "go"
    replace Gy : Good (m + 13) H19 [.ref a11, .ref a12, .ref a13, .ref a14, .ref a15, .ref a16, .ref a17, .ref a19] := Gy.snoc c19 (Sh.two (n := 0 + 1) (.str ok_row) (Sh.tup (n := 0) (ds := []) (by decide) (by intro d hd; cases hd))) (by omega)
    clear c19
    intro a20 h20
    have s20 := same_new (o := .lst [.ref a11, .ref a12, .ref a13, .ref a14, .ref a15, .ref a16, .ref a17, .ref a19]) h20
    have e20 := upd_same (H := H19) (a := a20) (o := .lst [.ref a11, .ref a12, .ref a13, .ref a14, .ref a15, .ref a16, .ref a17, .ref a19])
    have nL : a20 ≠ S := D.ne h20
    have bL := D.fresh h20
    have hL := F.back nL h20
    replace P := DA_keep (keepT_same s20) _ _ P
    replace D := D.same s20
    replace F := F.trans (.of s20)
    replace Gy := Gy.keep (keepT_same s20)
    generalize upd H19 a20 (.lst [.ref a11, .ref a12, .ref a13, .ref a14, .ref a15, .ref a16, .ref a17, .ref a19]) = H20 at s20 P D F Gy e20
    clear s20 h20
    have G := Gy
    have eL := e20
    clear Gy e20
    have lx : ([.ref a11, .ref a12, .ref a13, .ref a14, .ref a15, .ref a16, .ref a17, .ref a19] : List V).length = 8 := rfl
    generalize ([.ref a11, .ref a12, .ref a13, .ref a14, .ref a15, .ref a16, .ref a17, .ref a19] : List V) = xs20 at G eL lx
    walk_at "go"
    have Gy : Good (m + 13) H20 [] := Good.nil
    intro a21 h21
    have s21 := same_new (o := .tup [v]) h21
    have c21 : DA (upd H20 a21 (.tup [v])) (.ref a21) (.tuple [d]) := .tup upd_same (.cons ((DA_keep (keepT_same s21) _ _ P)) .nil)
    have e21 := upd_same (H := H20) (a := a21) (o := .tup [v])
    replace P := DA_keep (keepT_same s21) _ _ P
    replace D := D.same s21
    replace F := F.trans (.of s21)
    replace eL := s21 _ _ eL
    replace G := G.keep (keepT_same s21)
    replace Gy := Gy.keep (keepT_same s21)
    generalize upd H20 a21 (.tup [v]) = H21 at s21 P D F eL G Gy c21 e21
    clear s21 h21
    walk_at "go"
    refine ⟨a21, 21, [v], rfl, rfl, SqT.of e21, List.cons_ne_nil _ _, by decide, by decide, (by show 1 ≤ 1000; decide), (fun z => absurd z (by decide)), fun _ => ?_⟩
    intro a22 h22
    have s22 := same_new (o := .tup (List.replicate (21 : Int).toNat [v]).flatten) h22
    have c22 : DA (upd H21 a22 (.tup (List.replicate (21 : Int).toNat [v]).flatten)) (.ref a22) (.tuple (List.replicate 21 d)) := .tup upd_same (DAs.rep (DA_keep (keepT_same s22) _ _ P) 21)
    replace P := DA_keep (keepT_same s22) _ _ P
    replace D := D.same s22
    replace F := F.trans (.of s22)
    replace eL := s22 _ _ eL
    replace G := G.keep (keepT_same s22)
    replace Gy := Gy.keep (keepT_same s22)
    generalize upd H21 a22 (.tup (List.replicate (21 : Int).toNat [v]).flatten) = H22 at s22 P D F eL G Gy c22
    clear s22 h22
    clear e21 c21
    walk_at "go"
    intro a23 h23
    have s23 := same_new (o := .tup [.str "row", .ref a22]) h23
    have c23 : DA (upd H22 a23 (.tup [.str "row", .ref a22])) (.ref a23) (.tuple [.str "row", (.tuple (List.replicate 21 d))]) := .tup upd_same (.cons (.str _) (.cons ((DA_keep (keepT_same s23) _ _ c22)) .nil))
    replace P := DA_keep (keepT_same s23) _ _ P
    replace D := D.same s23
    replace F := F.trans (.of s23)
    replace eL := s23 _ _ eL
    replace G := G.keep (keepT_same s23)
    replace Gy := Gy.keep (keepT_same s23)
    generalize upd H22 a23 (.tup [.str "row", .ref a22]) = H23 at s23 P D F eL G Gy c23
    clear s23 h23
    clear c22
    walk_at "go"
    replace Gy : Good (m + 13) H23 [.ref a23] := Gy.snoc c23 (Sh.two (n := m + 1 + 1) (.str ok_row) (Sh.rep (n := m + 1) shP (by decide : 21 ≤ 30))) (by omega)
    clear c23
    intro a24 h24
    have s24 := same_new (o := .tup []) h24
    have c24 : DA (upd H23 a24 (.tup [])) (.ref a24) (.tuple []) := .tup upd_same .nil
    replace P := DA_keep (keepT_same s24) _ _ P
    replace D := D.same s24
    replace F := F.trans (.of s24)
    replace eL := s24 _ _ eL
    replace G := G.keep (keepT_same s24)
    replace Gy := Gy.keep (keepT_same s24)
    generalize upd H23 a24 (.tup []) = H24 at s24 P D F eL G Gy c24
    clear s24 h24
    walk_at "go"
    intro a25 h25
    have s25 := same_new (o := .tup [.str "either", .ref a24]) h25
    have c25 : DA (upd H24 a25 (.tup [.str "either", .ref a24])) (.ref a25) (.tuple [.str "either", (.tuple [])]) := .tup upd_same (.cons (.str _) (.cons ((DA_keep (keepT_same s25) _ _ c24)) .nil))
    replace P := DA_keep (keepT_same s25) _ _ P
    replace D := D.same s25
    replace F := F.trans (.of s25)
    replace eL := s25 _ _ eL
    replace G := G.keep (keepT_same s25)
    replace Gy := Gy.keep (keepT_same s25)
    generalize upd H24 a25 (.tup [.str "either", .ref a24]) = H25 at s25 P D F eL G Gy c25
    clear s25 h25
    clear c24
    walk_at "go"
    replace Gy : Good (m + 13) H25 [.ref a23, .ref a25] := Gy.snoc c25 (Sh.two (n := 0 + 1) (.str ok_either) (Sh.tup (n := 0) (ds := []) (by decide) (by intro d hd; cases hd))) (by omega)
    clear c25
    intro a26 h26
    have s26 := same_new (o := .tup [v]) h26
    have c26 : DA (upd H25 a26 (.tup [v])) (.ref a26) (.tuple [d]) := .tup upd_same (.cons ((DA_keep (keepT_same s26) _ _ P)) .nil)
    have e26 := upd_same (H := H25) (a := a26) (o := .tup [v])
    replace P := DA_keep (keepT_same s26) _ _ P
    replace D := D.same s26
    replace F := F.trans (.of s26)
    replace eL := s26 _ _ eL
    replace G := G.keep (keepT_same s26)
    replace Gy := Gy.keep (keepT_same s26)
    generalize upd H25 a26 (.tup [v]) = H26 at s26 P D F eL G Gy c26 e26
    clear s26 h26
    walk_at "go"
    refine ⟨a26, 6, [v], rfl, rfl, SqT.of e26, List.cons_ne_nil _ _, by decide, by decide, (by show 1 ≤ 1000; decide), (fun z => absurd z (by decide)), fun _ => ?_⟩
    intro a27 h27
    have s27 := same_new (o := .tup (List.replicate (6 : Int).toNat [v]).flatten) h27
    have c27 : DA (upd H26 a27 (.tup (List.replicate (6 : Int).toNat [v]).flatten)) (.ref a27) (.tuple (List.replicate 6 d)) := .tup upd_same (DAs.rep (DA_keep (keepT_same s27) _ _ P) 6)
    replace P := DA_keep (keepT_same s27) _ _ P
    replace D := D.same s27
    replace F := F.trans (.of s27)
    replace eL := s27 _ _ eL
    replace G := G.keep (keepT_same s27)
    replace Gy := Gy.keep (keepT_same s27)
    generalize upd H26 a27 (.tup (List.replicate (6 : Int).toNat [v]).flatten) = H27 at s27 P D F eL G Gy c27
    clear s27 h27
    clear e26 c26
    walk_at "go"
    intro a28 h28
    have s28 := same_new (o := .tup [.str "either", .ref a27]) h28
    have c28 : DA (upd H27 a28 (.tup [.str "either", .ref a27])) (.ref a28) (.tuple [.str "either", (.tuple (List.replicate 6 d))]) := .tup upd_same (.cons (.str _) (.cons ((DA_keep (keepT_same s28) _ _ c27)) .nil))
    replace P := DA_keep (keepT_same s28) _ _ P
    replace D := D.same s28
    replace F := F.trans (.of s28)
    replace eL := s28 _ _ eL
    replace G := G.keep (keepT_same s28)
    replace Gy := Gy.keep (keepT_same s28)
    generalize upd H27 a28 (.tup [.str "either", .ref a27]) = H28 at s28 P D F eL G Gy c28
    clear s28 h28
    clear c27
    walk_at "go"
    replace Gy : Good (m + 13) H28 [.ref a23, .ref a25, .ref a28] := Gy.snoc c28 (Sh.two (n := m + 1 + 1) (.str ok_either) (Sh.rep (n := m + 1) shP (by decide : 6 ≤ 30))) (by omega)
    clear c28
    intro a29 h29
    have s29 := same_new (o := .tup [.str "loop", .int 0, .int 10, v]) h29
    have c29 : DA (upd H28 a29 (.tup [.str "loop", .int 0, .int 10, v])) (.ref a29) (.tuple [.str "loop", .int 0, .int 10, d]) := .tup upd_same (.cons (.str _) (.cons (.int _) (.cons (.int _) (.cons ((DA_keep (keepT_same s29) _ _ P)) .nil))))
    replace P := DA_keep (keepT_same s29) _ _ P
    replace D := D.same s29
    replace F := F.trans (.of s29)
    replace eL := s29 _ _ eL
    replace G := G.keep (keepT_same s29)
    replace Gy := Gy.keep (keepT_same s29)
    generalize upd H28 a29 (.tup [.str "loop", .int 0, .int 10, v]) = H29 at s29 P D F eL G Gy c29
    clear s29 h29
    walk_at "go"
    replace Gy : Good (m + 13) H29 [.ref a23, .ref a25, .ref a28, .ref a29] := Gy.snoc c29 (Sh.four (n := m + 1) (.str ok_loop) (.int _) (.int _) shP) (by omega)
    clear c29
    intro a30 h30
    have s30 := same_new (o := .lst [.ref a23, .ref a25, .ref a28, .ref a29]) h30
    have e30 := upd_same (H := H29) (a := a30) (o := .lst [.ref a23, .ref a25, .ref a28, .ref a29])
    replace P := DA_keep (keepT_same s30) _ _ P
    replace D := D.same s30
    replace F := F.trans (.of s30)
    replace eL := s30 _ _ eL
    replace G := G.keep (keepT_same s30)
    replace Gy := Gy.keep (keepT_same s30)
    generalize upd H29 a30 (.lst [.ref a23, .ref a25, .ref a28, .ref a29]) = H30 at s30 P D F eL G Gy e30
    clear s30 h30
    walk_at "go"
    have ly : ([.ref a23, .ref a25, .ref a28, .ref a29] : List V).length = 4 := rfl
    generalize ([.ref a23, .ref a25, .ref a28, .ref a29] : List V) = ys at Gy e30 ly
    refine ⟨a20, a30, _, _, rfl, rfl, eL, e30, by rw [sizeLine_eq]; omega, fun a31 h31 => ?_⟩
    have s31 := same_new (o := .lst (xs20 ++ ys)) h31
    have e31 := upd_same (H := H30) (a := a31) (o := .lst (xs20 ++ ys))
    clear nL bL hL
    have nL : a31 ≠ S := D.ne h31
    have bL := D.fresh h31
    have hL := F.back nL h31
    replace P := DA_keep (keepT_same s31) _ _ P
    replace D := D.same s31
    replace F := F.trans (.of s31)
    replace eL := s31 _ _ eL
    replace G := G.keep (keepT_same s31)
    replace Gy := Gy.keep (keepT_same s31)
    generalize upd H30 a31 (.lst (xs20 ++ ys)) = H31 at s31 P D F eL G Gy e31
    clear s31 h31
    replace G := G.app Gy
    clear eL Gy e30
    have eL := e31
    clear e31
    have lx : (xs20 ++ ys).length = 12 := by rw [List.length_append]; omega
    clear ly
    generalize xs20 ++ ys = xs31 at G eL lx
    walk_at "go"
    refine g_tyL eL ?_
    walk_at "go"
    intro a32 h32
    have s32 := same_new (o := .tup [.str "loop", .int 1, .int 0, v]) h32
    have c32 : DA (upd H31 a32 (.tup [.str "loop", .int 1, .int 0, v])) (.ref a32) (.tuple [.str "loop", .int 1, .int 0, d]) := .tup upd_same (.cons (.str _) (.cons (.int _) (.cons (.int _) (.cons ((DA_keep (keepT_same s32) _ _ P)) .nil))))
    replace P := DA_keep (keepT_same s32) _ _ P
    replace D := D.same s32
    replace F := F.trans (.of s32)
    replace eL := s32 _ _ eL
    replace G := G.keep (keepT_same s32)
    generalize upd H31 a32 (.tup [.str "loop", .int 1, .int 0, v]) = H32 at s32 P D F eL G c32
    clear s32 h32
    walk_at "go"
    refine g_append eL (by omega) ?_
    replace G := G.snoc c32 (Sh.four (n := m + 1) (.str ok_loop) (.int _) (.int _) shP) (by omega)
    clear c32
    have k33 : KeepT H32 (upd H32 a31 (.lst (xs31 ++ [.ref a32]))) := keepT_lst eL
    replace G := G.keep k33
    replace P := DA_keep k33 _ _ P
    replace D := D.mut (o := .lst (xs31 ++ [.ref a32])) nL bL
    replace F := F.mut (o := .lst (xs31 ++ [.ref a32])) hL
    have e33 := upd_same (H := H32) (a := a31) (o := .lst (xs31 ++ [.ref a32]))
    generalize upd H32 a31 (.lst (xs31 ++ [.ref a32])) = H33 at k33 G P D F e33
    clear eL k33
    have eL := e33
    clear e33
    replace lx : (xs31 ++ [V.ref a32]).length = 13 := by rw [List.length_append, List.length_singleton]; omega
    generalize xs31 ++ [V.ref a32] = xs33 at G eL lx
    walk_at "go"
    have Gy : Good (m + 13) H33 [] := Good.nil
    intro a34 h34
    have s34 := same_new (o := .tup [.str "loop", .int (0 - 1), .int 2, v]) h34
    have c34 : DA (upd H33 a34 (.tup [.str "loop", .int (0 - 1), .int 2, v])) (.ref a34) (.tuple [.str "loop", .int (0 - 1), .int 2, d]) := .tup upd_same (.cons (.str _) (.cons (.int _) (.cons (.int _) (.cons ((DA_keep (keepT_same s34) _ _ P)) .nil))))
    replace P := DA_keep (keepT_same s34) _ _ P
    replace D := D.same s34
    replace F := F.trans (.of s34)
    replace eL := s34 _ _ eL
    replace G := G.keep (keepT_same s34)
    replace Gy := Gy.keep (keepT_same s34)
    generalize upd H33 a34 (.tup [.str "loop", .int (0 - 1), .int 2, v]) = H34 at s34 P D F eL G Gy c34
    clear s34 h34
    walk_at "go"
    replace Gy : Good (m + 13) H34 [.ref a34] := Gy.snoc c34 (Sh.four (n := m + 1) (.str ok_loop) (.int _) (.int _) shP) (by omega)
    clear c34
    intro a35 h35
    have s35 := same_new (o := .tup [.str "loop", .int 0, .int 1, v]) h35
    have c35 : DA (upd H34 a35 (.tup [.str "loop", .int 0, .int 1, v])) (.ref a35) (.tuple [.str "loop", .int 0, .int 1, d]) := .tup upd_same (.cons (.str _) (.cons (.int _) (.cons (.int _) (.cons ((DA_keep (keepT_same s35) _ _ P)) .nil))))
    replace P := DA_keep (keepT_same s35) _ _ P
    replace D := D.same s35
    replace F := F.trans (.of s35)
    replace eL := s35 _ _ eL
    replace G := G.keep (keepT_same s35)
    replace Gy := Gy.keep (keepT_same s35)
    generalize upd H34 a35 (.tup [.str "loop", .int 0, .int 1, v]) = H35 at s35 P D F eL G Gy c35
    clear s35 h35
    walk_at "go"
    replace Gy : Good (m + 13) H35 [.ref a34, .ref a35] := Gy.snoc c35 (Sh.four (n := m + 1) (.str ok_loop) (.int _) (.int _) shP) (by omega)
    clear c35
    intro a36 h36
    have s36 := same_new (o := .tup [.str "loop", .int 0, .int 2, v]) h36
    have c36 : DA (upd H35 a36 (.tup [.str "loop", .int 0, .int 2, v])) (.ref a36) (.tuple [.str "loop", .int 0, .int 2, d]) := .tup upd_same (.cons (.str _) (.cons (.int _) (.cons (.int _) (.cons ((DA_keep (keepT_same s36) _ _ P)) .nil))))
    replace P := DA_keep (keepT_same s36) _ _ P
    replace D := D.same s36
    replace F := F.trans (.of s36)
    replace eL := s36 _ _ eL
    replace G := G.keep (keepT_same s36)
    replace Gy := Gy.keep (keepT_same s36)
    generalize upd H35 a36 (.tup [.str "loop", .int 0, .int 2, v]) = H36 at s36 P D F eL G Gy c36
    clear s36 h36
    walk_at "go"
    intro a37 h37
    have s37 := same_new (o := .tup [.str "loop", .int 1, .int 1, .ref a36]) h37
    have c37 : DA (upd H36 a37 (.tup [.str "loop", .int 1, .int 1, .ref a36])) (.ref a37) (.tuple [.str "loop", .int 1, .int 1, (.tuple [.str "loop", .int 0, .int 2, d])]) := .tup upd_same (.cons (.str _) (.cons (.int _) (.cons (.int _) (.cons ((DA_keep (keepT_same s37) _ _ c36)) .nil))))
    replace P := DA_keep (keepT_same s37) _ _ P
    replace D := D.same s37
    replace F := F.trans (.of s37)
    replace eL := s37 _ _ eL
    replace G := G.keep (keepT_same s37)
    replace Gy := Gy.keep (keepT_same s37)
    generalize upd H36 a37 (.tup [.str "loop", .int 1, .int 1, .ref a36]) = H37 at s37 P D F eL G Gy c37
    clear s37 h37
    clear c36
    walk_at "go"
    replace Gy : Good (m + 13) H37 [.ref a34, .ref a35, .ref a37] := Gy.snoc c37 (Sh.four (n := m + 1 + 1) (.str ok_loop) (.int _) (.int _) (Sh.four (n := m + 1) (.str ok_loop) (.int _) (.int _) shP)) (by omega)
    clear c37
    intro a38 h38
    have s38 := same_new (o := .lst [.ref a34, .ref a35, .ref a37]) h38
    have e38 := upd_same (H := H37) (a := a38) (o := .lst [.ref a34, .ref a35, .ref a37])
    replace P := DA_keep (keepT_same s38) _ _ P
    replace D := D.same s38
    replace F := F.trans (.of s38)
    replace eL := s38 _ _ eL
    replace G := G.keep (keepT_same s38)
    replace Gy := Gy.keep (keepT_same s38)
    generalize upd H37 a38 (.lst [.ref a34, .ref a35, .ref a37]) = H38 at s38 P D F eL G Gy e38
    clear s38 h38
    walk_at "go"
    have ly : ([.ref a34, .ref a35, .ref a37] : List V).length = 3 := rfl
    generalize ([.ref a34, .ref a35, .ref a37] : List V) = ys at Gy e38 ly
    refine ⟨a31, a38, _, _, rfl, rfl, eL, e38, by rw [sizeLine_eq]; omega, fun a39 h39 => ?_⟩
    have s39 := same_new (o := .lst (xs33 ++ ys)) h39
    have e39 := upd_same (H := H38) (a := a39) (o := .lst (xs33 ++ ys))
    clear nL bL hL
    have nL : a39 ≠ S := D.ne h39
    have bL := D.fresh h39
    have hL := F.back nL h39
    replace P := DA_keep (keepT_same s39) _ _ P
    replace D := D.same s39
    replace F := F.trans (.of s39)
    replace eL := s39 _ _ eL
    replace G := G.keep (keepT_same s39)
    replace Gy := Gy.keep (keepT_same s39)
    generalize upd H38 a39 (.lst (xs33 ++ ys)) = H39 at s39 P D F eL G Gy e39
    clear s39 h39
    replace G := G.app Gy
    clear eL Gy e38
    have eL := e39
    clear e39
    have lx : (xs33 ++ ys).length = 16 := by rw [List.length_append]; omega
    clear ly
    generalize xs33 ++ ys = xs39 at G eL lx
    walk_at "go"
    refine g_tyL eL ?_
    walk_at "go"
    intro a40 h40
    have s40 := same_new (o := .tup [.str "loop", .int 1, v]) h40
    have c40 : DA (upd H39 a40 (.tup [.str "loop", .int 1, v])) (.ref a40) (.tuple [.str "loop", .int 1, d]) := .tup upd_same (.cons (.str _) (.cons (.int _) (.cons ((DA_keep (keepT_same s40) _ _ P)) .nil)))
    replace P := DA_keep (keepT_same s40) _ _ P
    replace D := D.same s40
    replace F := F.trans (.of s40)
    replace eL := s40 _ _ eL
    replace G := G.keep (keepT_same s40)
    generalize upd H39 a40 (.tup [.str "loop", .int 1, v]) = H40 at s40 P D F eL G c40
    clear s40 h40
    walk_at "go"
    refine g_append eL (by omega) ?_
    replace G := G.snoc c40 (Sh.three (n := m + 1) (.str ok_loop) (.int _) shP) (by omega)
    clear c40
    have k41 : KeepT H40 (upd H40 a39 (.lst (xs39 ++ [.ref a40]))) := keepT_lst eL
    replace G := G.keep k41
    replace P := DA_keep k41 _ _ P
    replace D := D.mut (o := .lst (xs39 ++ [.ref a40])) nL bL
    replace F := F.mut (o := .lst (xs39 ++ [.ref a40])) hL
    have e41 := upd_same (H := H40) (a := a39) (o := .lst (xs39 ++ [.ref a40]))
    generalize upd H40 a39 (.lst (xs39 ++ [.ref a40])) = H41 at k41 G P D F e41
    clear eL k41
    have eL := e41
    clear e41
    replace lx : (xs39 ++ [V.ref a40]).length = 17 := by rw [List.length_append, List.length_singleton]; omega
    generalize xs39 ++ [V.ref a40] = xs41 at G eL lx
    walk_at "go"
    have Gy : Good (m + 13) H41 [] := Good.nil
    intro a42 h42
    have s42 := same_new (o := .tup [.str "work", .str "1", .int 1]) h42
    have c42 : DA (upd H41 a42 (.tup [.str "work", .str "1", .int 1])) (.ref a42) (.tuple [.str "work", .str "1", .int 1]) := .tup upd_same (.cons (.str _) (.cons (.str _) (.cons (.int _) .nil)))
    replace P := DA_keep (keepT_same s42) _ _ P
    replace D := D.same s42
    replace F := F.trans (.of s42)
    replace eL := s42 _ _ eL
    replace G := G.keep (keepT_same s42)
    replace Gy := Gy.keep (keepT_same s42)
    generalize upd H41 a42 (.tup [.str "work", .str "1", .int 1]) = H42 at s42 P D F eL G Gy c42
    clear s42 h42
    walk_at "go"
    replace Gy : Good (m + 13) H42 [.ref a42] := Gy.snoc c42 (Sh.three (n := 0) (.str ok_work) (.str ok_1) (.int _)) (by omega)
    clear c42
    intro a43 h43
    have s43 := same_new (o := .tup [.str "work", .int 1, .str "2"]) h43
    have c43 : DA (upd H42 a43 (.tup [.str "work", .int 1, .str "2"])) (.ref a43) (.tuple [.str "work", .int 1, .str "2"]) := .tup upd_same (.cons (.str _) (.cons (.int _) (.cons (.str _) .nil)))
    replace P := DA_keep (keepT_same s43) _ _ P
    replace D := D.same s43
    replace F := F.trans (.of s43)
    replace eL := s43 _ _ eL
    replace G := G.keep (keepT_same s43)
    replace Gy := Gy.keep (keepT_same s43)
    generalize upd H42 a43 (.tup [.str "work", .int 1, .str "2"]) = H43 at s43 P D F eL G Gy c43
    clear s43 h43
    walk_at "go"
    replace Gy : Good (m + 13) H43 [.ref a42, .ref a43] := Gy.snoc c43 (Sh.three (n := 0) (.str ok_work) (.int _) (.str ok_2)) (by omega)
    clear c43
    replace Gy : Good (m + 13) H43 [.ref a42, .ref a43, .str "pat"] := Gy.snoc (.str _) (Sh.str (n := 0) ok_pat) (by omega)
    replace Gy : Good (m + 13) H43 [.ref a42, .ref a43, .str "pat", .int 5] := Gy.snoc (.int _) (Sh.int (n := 0) _) (by omega)
    intro a44 h44
    have s44 := same_new (o := .tup [.int 0]) h44
    have c44 : DA (upd H43 a44 (.tup [.int 0])) (.ref a44) (.tuple [.int 0]) := .tup upd_same (.cons (.int _) .nil)
    replace P := DA_keep (keepT_same s44) _ _ P
    replace D := D.same s44
    replace F := F.trans (.of s44)
    replace eL := s44 _ _ eL
    replace G := G.keep (keepT_same s44)
    replace Gy := Gy.keep (keepT_same s44)
    generalize upd H43 a44 (.tup [.int 0]) = H44 at s44 P D F eL G Gy c44
    clear s44 h44
    walk_at "go"
    replace Gy : Good (m + 13) H44 [.ref a42, .ref a43, .str "pat", .int 5, .ref a44] := Gy.snoc c44 (Sh.one (n := 0) (.int _)) (by omega)
    clear c44
    intro a45 h45
    have s45 := same_new (o := .tup [.str "row", v]) h45
    have c45 : DA (upd H44 a45 (.tup [.str "row", v])) (.ref a45) (.tuple [.str "row", d]) := .tup upd_same (.cons (.str _) (.cons ((DA_keep (keepT_same s45) _ _ P)) .nil))
    replace P := DA_keep (keepT_same s45) _ _ P
    replace D := D.same s45
    replace F := F.trans (.of s45)
    replace eL := s45 _ _ eL
    replace G := G.keep (keepT_same s45)
    replace Gy := Gy.keep (keepT_same s45)
    generalize upd H44 a45 (.tup [.str "row", v]) = H45 at s45 P D F eL G Gy c45
    clear s45 h45
    walk_at "go"
    replace Gy : Good (m + 13) H45 [.ref a42, .ref a43, .str "pat", .int 5, .ref a44, .ref a45] := Gy.snoc c45 (Sh.two (n := m + 1) (.str ok_row) shP) (by omega)
    clear c45
    intro a46 h46
    have s46 := same_new (o := .tup [.str "pat"]) h46
    have c46 : DA (upd H45 a46 (.tup [.str "pat"])) (.ref a46) (.tuple [.str "pat"]) := .tup upd_same (.cons (.str _) .nil)
    replace P := DA_keep (keepT_same s46) _ _ P
    replace D := D.same s46
    replace F := F.trans (.of s46)
    replace eL := s46 _ _ eL
    replace G := G.keep (keepT_same s46)
    replace Gy := Gy.keep (keepT_same s46)
    generalize upd H45 a46 (.tup [.str "pat"]) = H46 at s46 P D F eL G Gy c46
    clear s46 h46
    walk_at "go"
    intro a47 h47
    have s47 := same_new (o := .tup [.str "row", .ref a46]) h47
    have c47 : DA (upd H46 a47 (.tup [.str "row", .ref a46])) (.ref a47) (.tuple [.str "row", (.tuple [.str "pat"])]) := .tup upd_same (.cons (.str _) (.cons ((DA_keep (keepT_same s47) _ _ c46)) .nil))
    replace P := DA_keep (keepT_same s47) _ _ P
    replace D := D.same s47
    replace F := F.trans (.of s47)
    replace eL := s47 _ _ eL
    replace G := G.keep (keepT_same s47)
    replace Gy := Gy.keep (keepT_same s47)
    generalize upd H46 a47 (.tup [.str "row", .ref a46]) = H47 at s47 P D F eL G Gy c47
    clear s47 h47
    clear c46
    walk_at "go"
    replace Gy : Good (m + 13) H47 [.ref a42, .ref a43, .str "pat", .int 5, .ref a44, .ref a45, .ref a47] := Gy.snoc c47 (Sh.two (n := 0 + 1) (.str ok_row) (Sh.one (n := 0) (.str ok_pat))) (by omega)
    clear c47
    intro a48 h48
    have s48 := same_new (o := .lst [.ref a42, .ref a43, .str "pat", .int 5, .ref a44, .ref a45, .ref a47]) h48
    have e48 := upd_same (H := H47) (a := a48) (o := .lst [.ref a42, .ref a43, .str "pat", .int 5, .ref a44, .ref a45, .ref a47])
    replace P := DA_keep (keepT_same s48) _ _ P
    replace D := D.same s48
    replace F := F.trans (.of s48)
    replace eL := s48 _ _ eL
    replace G := G.keep (keepT_same s48)
    replace Gy := Gy.keep (keepT_same s48)
    generalize upd H47 a48 (.lst [.ref a42, .ref a43, .str "pat", .int 5, .ref a44, .ref a45, .ref a47]) = H48 at s48 P D F eL G Gy e48
    clear s48 h48
    walk_at "go"
    have ly : ([.ref a42, .ref a43, .str "pat", .int 5, .ref a44, .ref a45, .ref a47] : List V).length = 7 := rfl
    generalize ([.ref a42, .ref a43, .str "pat", .int 5, .ref a44, .ref a45, .ref a47] : List V) = ys at Gy e48 ly
    refine ⟨a39, a48, _, _, rfl, rfl, eL, e48, by rw [sizeLine_eq]; omega, fun a49 h49 => ?_⟩
    have s49 := same_new (o := .lst (xs41 ++ ys)) h49
    have e49 := upd_same (H := H48) (a := a49) (o := .lst (xs41 ++ ys))
    clear nL bL hL
    have nL : a49 ≠ S := D.ne h49
    have bL := D.fresh h49
    have hL := F.back nL h49
    replace P := DA_keep (keepT_same s49) _ _ P
    replace D := D.same s49
    replace F := F.trans (.of s49)
    replace eL := s49 _ _ eL
    replace G := G.keep (keepT_same s49)
    replace Gy := Gy.keep (keepT_same s49)
    generalize upd H48 a49 (.lst (xs41 ++ ys)) = H49 at s49 P D F eL G Gy e49
    clear s49 h49
    replace G := G.app Gy
    clear eL Gy e48
    have eL := e49
    clear e49
    have lx : (xs41 ++ ys).length = 24 := by rw [List.length_append]; omega
    clear ly
    generalize xs41 ++ ys = xs49 at G eL lx
    walk_at "go"
    refine g_tyL eL ?_
    walk_at "go"
    intro a50 h50
    have s50 := same_new (o := .tup [.str "work", .int 1000, .int 1000]) h50
    have c50 : DA (upd H49 a50 (.tup [.str "work", .int 1000, .int 1000])) (.ref a50) (.tuple [.str "work", .int 1000, .int 1000]) := .tup upd_same (.cons (.str _) (.cons (.int _) (.cons (.int _) .nil)))
    replace P := DA_keep (keepT_same s50) _ _ P
    replace D := D.same s50
    replace F := F.trans (.of s50)
    replace eL := s50 _ _ eL
    replace G := G.keep (keepT_same s50)
    generalize upd H49 a50 (.tup [.str "work", .int 1000, .int 1000]) = H50 at s50 P D F eL G c50
    clear s50 h50
    walk_at "go"
    refine g_append eL (by omega) ?_
    replace G := G.snoc c50 (Sh.three (n := 0) (.str ok_work) (.int _) (.int _)) (by omega)
    clear c50
    have k51 : KeepT H50 (upd H50 a49 (.lst (xs49 ++ [.ref a50]))) := keepT_lst eL
    replace G := G.keep k51
    replace P := DA_keep k51 _ _ P
    replace D := D.mut (o := .lst (xs49 ++ [.ref a50])) nL bL
    replace F := F.mut (o := .lst (xs49 ++ [.ref a50])) hL
    have e51 := upd_same (H := H50) (a := a49) (o := .lst (xs49 ++ [.ref a50]))
    generalize upd H50 a49 (.lst (xs49 ++ [.ref a50])) = H51 at k51 G P D F e51
    clear eL k51
    have eL := e51
    clear e51
    replace lx : (xs49 ++ [V.ref a50]).length = 25 := by rw [List.length_append, List.length_singleton]; omega
    generalize xs49 ++ [V.ref a50] = xs51 at G eL lx
    walk_at "go"
    refine use_drawn (n := 6) D (by decide) (by decide) fun HA z fA dA z0 z1 => ?_
    have kA := keepT_frm D fA
    have PA := DA_keep kA _ _ P
    have GA := G.keep kA
    have eA := fA _ _ nL eL
    have FA := F.trans fA
    clear kA fA P G eL F D
    walk_at "go"
    refine w_range (by omega) (by omega) (fun i σ H' => ∃ (vd : V) (dd : PyData) (v7 : Option V), σ = [some (.ref S), some v, some vp, v3, some vl, some (.ref a49), some vd, v7] ∧ Same HA H' ∧ DA H' vd dd ∧ Sh (m + 1 + 2 * i) dd) ?_ ?_ ?_
    · exact ⟨v, d, _, rfl, fun _ _ h => h, PA, shP⟩
    · rintro i σ HB hi ⟨vd, dd, v7, rfl, sB, gB, shB⟩
      walk_at "go"
      intro b1 hb1
      have s1 := same_new (o := .tup [vd]) hb1
      have e1 := upd_same (H := HB) (a := b1) (o := .tup [vd])
      have g1 := DA_keep (keepT_same s1) _ _ gB
      generalize upd HB b1 (.tup [vd]) = HC at s1 e1 g1
      walk_at "go"
      intro b2 hb2
      have s2 := same_new (o := .tup [.str "row", .ref b1]) hb2
      have e2 := upd_same (H := HC) (a := b2) (o := .tup [.str "row", .ref b1])
      have g2 := DA_keep (keepT_same s2) _ _ g1
      have e12 := s2 _ _ e1
      generalize upd HC b2 (.tup [.str "row", .ref b1]) = HD at s2 e2 g2 e12
      walk_at "go"
      refine ⟨.ref b2, .tuple [.str "row", .tuple [dd]], _, rfl, sB.trans (s1.trans s2), .tup e2 (.cons (.str _) (.cons (.tup e12 (.cons g2 .nil)) .nil)), ?_⟩
      rw [show m + 1 + 2 * (i + 1) = (m + 1 + 2 * i) + 1 + 1 by omega]
      exact .two (.str ok_row) (.one shB)
    rintro σ HB ⟨vd, dd, v7, rfl, sB, gB, shB⟩
    have D := dA.same sB
    have F := FA.trans (.of sB)
    have P := DA_keep (keepT_same sB) _ _ PA
    have G := GA.keep (keepT_same sB)
    have eL := sB _ _ eA
    have shd : Sh (m + 13) dd := shB.mono (by omega)
    clear sB GA eA PA FA dA shB
    walk_at "go"
    have Gy : Good (m + 13) HB [] := Good.nil
    replace Gy : Good (m + 13) HB [vd] := Gy.snoc gB shd (by omega)
    clear gB
    intro a52 h52
    have s52 := same_new (o := .tup [v]) h52
    have c52 : DA (upd HB a52 (.tup [v])) (.ref a52) (.tuple [d]) := .tup upd_same (.cons ((DA_keep (keepT_same s52) _ _ P)) .nil)
    have e52 := upd_same (H := HB) (a := a52) (o := .tup [v])
    replace P := DA_keep (keepT_same s52) _ _ P
    replace D := D.same s52
    replace F := F.trans (.of s52)
    replace eL := s52 _ _ eL
    replace G := G.keep (keepT_same s52)
    replace Gy := Gy.keep (keepT_same s52)
    generalize upd HB a52 (.tup [v]) = H52 at s52 P D F eL G Gy c52 e52
    clear s52 h52
    walk_at "go"
    refine ⟨a52, 6, [v], rfl, rfl, SqT.of e52, List.cons_ne_nil _ _, by decide, by decide, (by show 1 ≤ 1000; decide), (fun z => absurd z (by decide)), fun _ => ?_⟩
    intro a53 h53
    have s53 := same_new (o := .tup (List.replicate (6 : Int).toNat [v]).flatten) h53
    have c53 : DA (upd H52 a53 (.tup (List.replicate (6 : Int).toNat [v]).flatten)) (.ref a53) (.tuple (List.replicate 6 d)) := .tup upd_same (DAs.rep (DA_keep (keepT_same s53) _ _ P) 6)
    replace P := DA_keep (keepT_same s53) _ _ P
    replace D := D.same s53
    replace F := F.trans (.of s53)
    replace eL := s53 _ _ eL
    replace G := G.keep (keepT_same s53)
    replace Gy := Gy.keep (keepT_same s53)
    generalize upd H52 a53 (.tup (List.replicate (6 : Int).toNat [v]).flatten) = H53 at s53 P D F eL G Gy c53
    clear s53 h53
    clear e52 c52
    walk_at "go"
    intro a54 h54
    have s54 := same_new (o := .tup [.str "row", .ref a53]) h54
    have c54 : DA (upd H53 a54 (.tup [.str "row", .ref a53])) (.ref a54) (.tuple [.str "row", (.tuple (List.replicate 6 d))]) := .tup upd_same (.cons (.str _) (.cons ((DA_keep (keepT_same s54) _ _ c53)) .nil))
    replace P := DA_keep (keepT_same s54) _ _ P
    replace D := D.same s54
    replace F := F.trans (.of s54)
    replace eL := s54 _ _ eL
    replace G := G.keep (keepT_same s54)
    replace Gy := Gy.keep (keepT_same s54)
    generalize upd H53 a54 (.tup [.str "row", .ref a53]) = H54 at s54 P D F eL G Gy c54
    clear s54 h54
    clear c53
    walk_at "go"
    intro a55 h55
    have s55 := same_new (o := .tup [.ref a54]) h55
    have c55 : DA (upd H54 a55 (.tup [.ref a54])) (.ref a55) (.tuple [(.tuple [.str "row", (.tuple (List.replicate 6 d))])]) := .tup upd_same (.cons ((DA_keep (keepT_same s55) _ _ c54)) .nil)
    have e55 := upd_same (H := H54) (a := a55) (o := .tup [.ref a54])
    replace P := DA_keep (keepT_same s55) _ _ P
    replace D := D.same s55
    replace F := F.trans (.of s55)
    replace eL := s55 _ _ eL
    replace G := G.keep (keepT_same s55)
    replace Gy := Gy.keep (keepT_same s55)
    replace c54 := DA_keep (keepT_same s55) _ _ c54
    generalize upd H54 a55 (.tup [.ref a54]) = H55 at s55 P D F eL G Gy c54 c55 e55
    clear s55 h55
    walk_at "go"
    refine ⟨a55, 5, [.ref a54], rfl, rfl, SqT.of e55, List.cons_ne_nil _ _, by decide, by decide, (by show 1 ≤ 1000; decide), (fun z => absurd z (by decide)), fun _ => ?_⟩
    intro a56 h56
    have s56 := same_new (o := .tup (List.replicate (5 : Int).toNat [.ref a54]).flatten) h56
    have c56 : DA (upd H55 a56 (.tup (List.replicate (5 : Int).toNat [.ref a54]).flatten)) (.ref a56) (.tuple (List.replicate 5 (.tuple [.str "row", (.tuple (List.replicate 6 d))]))) := .tup upd_same (DAs.rep (DA_keep (keepT_same s56) _ _ c54) 5)
    replace P := DA_keep (keepT_same s56) _ _ P
    replace D := D.same s56
    replace F := F.trans (.of s56)
    replace eL := s56 _ _ eL
    replace G := G.keep (keepT_same s56)
    replace Gy := Gy.keep (keepT_same s56)
    generalize upd H55 a56 (.tup (List.replicate (5 : Int).toNat [.ref a54]).flatten) = H56 at s56 P D F eL G Gy c56
    clear s56 h56
    clear e55 c55
    clear c54
    walk_at "go"
    intro a57 h57
    have s57 := same_new (o := .tup [.str "row", .ref a56]) h57
    have c57 : DA (upd H56 a57 (.tup [.str "row", .ref a56])) (.ref a57) (.tuple [.str "row", (.tuple (List.replicate 5 (.tuple [.str "row", (.tuple (List.replicate 6 d))])))]) := .tup upd_same (.cons (.str _) (.cons ((DA_keep (keepT_same s57) _ _ c56)) .nil))
    replace P := DA_keep (keepT_same s57) _ _ P
    replace D := D.same s57
    replace F := F.trans (.of s57)
    replace eL := s57 _ _ eL
    replace G := G.keep (keepT_same s57)
    replace Gy := Gy.keep (keepT_same s57)
    generalize upd H56 a57 (.tup [.str "row", .ref a56]) = H57 at s57 P D F eL G Gy c57
    clear s57 h57
    clear c56
    walk_at "go"
    replace Gy : Good (m + 13) H57 [vd, .ref a57] := Gy.snoc c57 (Sh.two (n := m + 1 + 1 + 1 + 1) (.str ok_row) (Sh.rep (n := m + 1 + 1 + 1) (Sh.two (n := m + 1 + 1) (.str ok_row) (Sh.rep (n := m + 1) shP (by decide : 6 ≤ 30))) (by decide : 5 ≤ 30))) (by omega)
    clear c57
    intro a58 h58
    have s58 := same_new (o := .lst [vd, .ref a57]) h58
    have e58 := upd_same (H := H57) (a := a58) (o := .lst [vd, .ref a57])
    replace P := DA_keep (keepT_same s58) _ _ P
    replace D := D.same s58
    replace F := F.trans (.of s58)
    replace eL := s58 _ _ eL
    replace G := G.keep (keepT_same s58)
    replace Gy := Gy.keep (keepT_same s58)
    generalize upd H57 a58 (.lst [vd, .ref a57]) = H58 at s58 P D F eL G Gy e58
    clear s58 h58
    walk_at "go"
    have ly : ([vd, .ref a57] : List V).length = 2 := rfl
    generalize ([vd, .ref a57] : List V) = ys at Gy e58 ly
    refine ⟨a49, a58, _, _, rfl, rfl, eL, e58, by rw [sizeLine_eq]; omega, fun a59 h59 => ?_⟩
    have s59 := same_new (o := .lst (xs51 ++ ys)) h59
    have e59 := upd_same (H := H58) (a := a59) (o := .lst (xs51 ++ ys))
    clear nL bL hL
    have nL : a59 ≠ S := D.ne h59
    have bL := D.fresh h59
    have hL := F.back nL h59
    replace P := DA_keep (keepT_same s59) _ _ P
    replace D := D.same s59
    replace F := F.trans (.of s59)
    replace eL := s59 _ _ eL
    replace G := G.keep (keepT_same s59)
    replace Gy := Gy.keep (keepT_same s59)
    generalize upd H58 a59 (.lst (xs51 ++ ys)) = H59 at s59 P D F eL G Gy e59
    clear s59 h59
    replace G := G.app Gy
    clear eL Gy e58
    have eL := e59
    clear e59
    have lx : (xs51 ++ ys).length = 27 := by rw [List.length_append]; omega
    clear ly
    generalize xs51 ++ ys = xs59 at G eL lx
    walk_at "go"
    refine use_drawn (n := 27) D (by decide) (by decide) fun HZ z2 fZ dZ z20 z21 => ?_
    obtain ⟨x9, hx9, hx92⟩ := atI_mem (xs := xs59) z20 (by omega)
    refine g_ixL (SqL.of (fZ _ _ nL eL)) hx92 ?_
    obtain ⟨d9, g9, sh9⟩ := G _ hx9
    exact q _ _ _ (F.trans fZ) dZ (DA_keep (keepT_frm D fZ) _ _ g9) sh9
theorem ok_turned (T : TxtP K mg) {f : Addr} {fd : FuncData} (D : C8.Def K mg "_law_turned" s_law_turned f fd) (b : Binds K fd ["_law_state", "_law_plan_here"] []) (g_law_drawn : C8.Cal P w K mg base 1 "_law_drawn" (sp_drawn K) []) : ∀ k : Nat, C8.Cal P w K mg base (k + 1) "_law_turned" (sp_turned K k) []
  | 0 => ⟨f, fd, ["_law_state", "_law_plan_here"], [], ⟨fun _ _ _ _ h => h.elim, fun _ _ _ _ _ _ _ _ _ _ _ _ _ h => h.elim⟩, D.mgf, D.kp, b, .nil⟩
  | k + 1 => turned_step T D b g_law_drawn (ok_turned T D b g_law_drawn k)
end
end K02R
namespace K02R
open PySem PySem.Spec PyProof.Rows L2 Wd K02
section
variable {P : Program} {w : World} {K : PySem.W.Frag} {mg : Str → Option Value} {base : Heap} {CW : Addr}
/-- the classes of the refusals, at their places -/
structure Refs (K : PySem.W.Frag) (mg : Str → Option Value) (CD : Addr) (cs : List Addr) : Prop where
  n_isinstance : mg "isinstance" = none
  n_ValueError : mg "ValueError" = none
  g_DogError : mg "DogError" = some (.ref CD)
  g_BadWindow : ∃ C, cs[0]? = some C ∧ mg "BadWindow" = some (.ref C)
  g_BadPlan : ∃ C, cs[1]? = some C ∧ mg "BadPlan" = some (.ref C)
  g_BadDelays : ∃ C, cs[2]? = some C ∧ mg "BadDelays" = some (.ref C)
  g_BadWorks : ∃ C, cs[3]? = some C ∧ mg "BadWorks" = some (.ref C)
  g_NoPats : ∃ C, cs[4]? = some C ∧ mg "NoPats" = some (.ref C)
  g_NoPlace : ∃ C, cs[5]? = some C ∧ mg "NoPlace" = some (.ref C)
  g_BadTasks : ∃ C, cs[6]? = some C ∧ mg "BadTasks" = some (.ref C)
  g_BadBeat : ∃ C, cs[7]? = some C ∧ mg "BadBeat" = some (.ref C)
  g_TooMuch : ∃ C, cs[8]? = some C ∧ mg "TooMuch" = some (.ref C)
/-- a refusal without a dict of its own, of the i-th class: an error of DogError's, a ValueError, and of none of the others -/
structure IsRef (K : PySem.W.Frag) (CD : Addr) (cs : List Addr) (i : Nat) (C : Addr) : Prop where
  cls : cs[i]? = some C
  exc : ExcC K C
  dog : PySem.W.exmOne K (.ref C) (.ref CD) = some true
  val : PySem.W.kitOne K (.ref C) (.type "ValueError") = some true
  own : ∀ (j : Nat) (C' : Addr), cs[j]? = some C' → PySem.W.kitOne K (.ref C) (.ref C') = some (decide (i = j))
def kindW : List Str := ["BadWindow", "BadPlan", "BadDelays", "BadWorks", "NoPats", "NoPlace", "BadTasks", "BadBeat", "TooMuch"]
/-- what is wished of an exception: a refusal, whose word is told -/
def HasX (d : Option Addr) (H : Hp) : Prop := ∀ dd, d = some dd → ∃ fs, H dd = some (.xd fs)
theorem HasX.same {d : Option Addr} {H H' : Hp} (h : HasX d H) (s : Same H H') : HasX d H' := fun dd e => by
  obtain ⟨fs, h1⟩ := h dd e
  exact ⟨fs, s _ _ h1⟩
theorem HasX.none {H : Hp} : HasX none H := fun dd e => by cases e
theorem HasX.some {x : Addr} {fs : List (Str × V)} {H : Hp} (h : H x = some (.xd fs)) : HasX (some x) H := fun dd e => by cases e; exact ⟨fs, h⟩
def EKind (K : PySem.W.Frag) (CD : Addr) (cs : List Addr) (Q : VK) : XK := fun cls d H => ∃ (i : Nat) (C : Addr) (x : Str), cls = .ref C ∧ HasX d H ∧ IsRef K CD cs i C ∧ kindW[i]? = some x ∧ ∀ H', Same H H' → Q (.str x) H'
def TKind (K : PySem.W.Frag) (CD : Addr) (cs : List Addr) : (XK → Hp → VK → Prop) → Hp → VK → Prop := fun tl H Q => tl (EKind K CD cs Q) H Q
abbrev s_law_kind : Stmt := top 47
theorem sc_law_kind : FnScope ["_law_work", "e", "_law_kinds", "_law_words"] ["_law_work"] (C8.fnScope s_law_kind) := C8.fnScope_by (by decide +kernel)
theorem kind_gives {X : Cx} {g CD : Addr} {cs : List Addr} {cdg : Value} {q : Str} (T : Refs X.K X.mg CD cs) :
    LamX.GivesTo X ["_law_work", "e", "_law_kinds", "_law_words"] "_law_kind" (C8.fnScope s_law_kind) g cdg (C8.fnBody s_law_kind) "_law_work" q (TKind X.K CD cs) := by
  intro f c' s H Q tl act hc h
  have nd := sc_law_kind.nd
  obtain ⟨C0, e0, m0⟩ := T.g_BadWindow
  obtain ⟨C1, e1, m1⟩ := T.g_BadPlan
  obtain ⟨C2, e2, m2⟩ := T.g_BadDelays
  obtain ⟨C3, e3, m3⟩ := T.g_BadWorks
  obtain ⟨C4, e4, m4⟩ := T.g_NoPats
  obtain ⟨C5, e5, m5⟩ := T.g_NoPlace
  obtain ⟨C6, e6, m6⟩ := T.g_BadTasks
  obtain ⟨C7, e7, m7⟩ := T.g_BadBeat
  obtain ⟨C8', e8, m8⟩ := T.g_TooMuch
  refine ⟨_, pss_one (ps_try_as (X := (cxOf C8.CX0 X.prog X.w X.K X.mg X.base ["_law_work", "e", "_law_kinds", "_law_words"] "_law_kind" (C8.fnScope s_law_kind) g cdg X.A X.stack s H C8.E0).nox) (c := .ref CD) (i := 1)
      (tb := fun W D σ H => ∃ Ech : XK, (∀ cls d σ' H', Ech cls d H' → σ'.length = 4 → W cls d σ' H') ∧ σ[0]? = some (some (.ref f)) ∧ H c' = some (LamX.CodeO c' q) ∧ tl Ech H D.rt) (Wout := fun _ _ _ _ => False)
      rfl rfl nd rfl rfl ⟨rfl, by decide, .inl T.g_DogError⟩ LamX.takes0 (fun W pn xe tk _ => ?_) (fun a oe cls d pn hz hf => (pss_cons (ps_set (i := 2) nd rfl (Or.inl rfl) (pe_lst (pa_cons (pe_callB (r := rIsE3 X.K cls d a) (call_isE3 hz hf) (by rfl) T.n_isinstance (by decide +kernel) (pa_cons (pv 1) (pa_cons (pe_glob (v := .ref C0) rfl m0 rfl) pa_nil))) (pa_cons (pe_callB (r := rIsE3 X.K cls d a) (call_isE3 hz hf) (by rfl) T.n_isinstance (by decide +kernel) (pa_cons (pv 1) (pa_cons (pe_glob (v := .ref C1) rfl m1 rfl) pa_nil))) (pa_cons (pe_callB (r := rIsE3 X.K cls d a) (call_isE3 hz hf) (by rfl) T.n_isinstance (by decide +kernel) (pa_cons (pv 1) (pa_cons (pe_glob (v := .ref C2) rfl m2 rfl) pa_nil))) (pa_cons (pe_callB (r := rIsE3 X.K cls d a) (call_isE3 hz hf) (by rfl) T.n_isinstance (by decide +kernel) (pa_cons (pv 1) (pa_cons (pe_glob (v := .ref C3) rfl m3 rfl) pa_nil))) pa_nil))))))
      (pss_cons (ps_set (i := 2) nd rfl (Or.inl rfl) (pe_op op_cat (pv 2) (pe_lst (pa_cons (pe_callB (r := rIsE3 X.K cls d a) (call_isE3 hz hf) (by rfl) T.n_isinstance (by decide +kernel) (pa_cons (pv 1) (pa_cons (pe_glob (v := .ref C4) rfl m4 rfl) pa_nil))) (pa_cons (pe_callB (r := rIsE3 X.K cls d a) (call_isE3 hz hf) (by rfl) T.n_isinstance (by decide +kernel) (pa_cons (pv 1) (pa_cons (pe_glob (v := .ref C5) rfl m5 rfl) pa_nil))) (pa_cons (pe_callB (r := rIsE3 X.K cls d a) (call_isE3 hz hf) (by rfl) T.n_isinstance (by decide +kernel) (pa_cons (pv 1) (pa_cons (pe_glob (v := .ref C6) rfl m6 rfl) pa_nil))) (pa_cons (pe_callB (r := rIsE3 X.K cls d a) (call_isE3 hz hf) (by rfl) T.n_isinstance (by decide +kernel) (pa_cons (pv 1) (pa_cons (pe_glob (v := .ref C7) rfl m7 rfl) pa_nil))) pa_nil)))))))
      (pss_cons (ps_expr (pe_bmK (K := X.K) rfl PySem.F.plainAttrs_list PySem.F.slot_list_append PySem.F.type_list_append mt_append (pv 2) (pa_cons (pe_callB (r := rIsE3 X.K cls d a) (call_isE3 hz hf) (by rfl) T.n_isinstance (by decide +kernel) (pa_cons (pv 1) (pa_cons (pe_glob (v := .ref C8') rfl m8 rfl) pa_nil))) pa_nil)))
      (pss_cons (ps_set (i := 3) nd rfl (Or.inl rfl) (pe_lst (pa_cons pe_str (pa_cons pe_str (pa_cons pe_str (pa_cons pe_str (pa_cons pe_str (pa_cons pe_str (pa_cons pe_str (pa_cons pe_str (pa_cons pe_str pa_nil)))))))))))
      (pss_cons (ps_if (PW.pt (pw_or (pt_cmpR op_ne (pe_bmK (K := X.K) rfl PySem.F.plainAttrs_list PySem.F.slot_list_count PySem.F.type_list_count (r := rCntV X.K) mt_lcountV (pv 2) (pa_cons pe_bl pa_nil)) pe_int (nomark _)) (pw_or1 (pt_not (pt_val (pe_callB (r := rIsE3 X.K cls d a) (call_isE3 hz hf) (by rfl) T.n_isinstance (by decide +kernel) (pa_cons (pv 1) (pa_cons (pe_bltn (v := .ty "ValueError") (by rfl) T.n_ValueError (by decide +kernel) rfl) pa_nil)))))))) (pss_one (ps_ret pe_str)) pss_nil)
      (pss_one (ps_ret (pe_ix (r := rIxL X.K) ix_list (pv 3) (pe_bmK (K := X.K) rfl PySem.F.plainAttrs_list PySem.F.slot_list_index PySem.F.type_list_index (r := rIndex X.K) mt_index (pv 2) (pa_cons pe_bl pa_nil)) (fun _ _ => rfl))))))))))), ?_⟩
  · refine ⟨fun pins s' σ H' D I h' => ?_⟩
    obtain ⟨Ech, hW, h1, h2, h3⟩ := h'
    exact (pss_one (ps_ret (act _ pn xe Ech _ _ (takes_len tk) hW))).run pins s' σ H' D I ⟨h1, h2, h3⟩
  · refine ⟨EKind X.K CD cs Q, fun cls d σ' H' hE hlen => ?_, rfl, hc, h⟩
    obtain ⟨i, C, x, rfl, hd, R, hx, k⟩ := hE
    obtain ⟨v0, v1, v2, v3, rfl⟩ : ∃ v0 v1 v2 v3, σ' = [v0, v1, v2, v3] := by
      match σ', hlen with
      | [v0, v1, v2, v3], _ => exact ⟨v0, v1, v2, v3, rfl⟩
    refine ⟨true, R.dog, fun _ a ha => ?_, fun q => nomatch q⟩
    show tSeq _ _ _ _ _
    have isC : ∀ (j : Nat) (C' : Addr) (H : Hp) (Q : VK), cs[j]? = some C' → HasX d H → Q (.bl (decide (i = j))) H → rIsE3 X.K (.ref C) d a [.ref a, .ref C'] H Q := fun j C' H Q e hd q => ⟨C, .ref C', .ref C', _, rfl, hd, R.exc, rfl, fun u r => r, R.own j C' e, q⟩
    walk_at "go"
    refine isC 0 _ _ _ e0 hd ?_
    walk_at "go"
    refine isC 1 _ _ _ e1 hd ?_
    walk_at "go"
    refine isC 2 _ _ _ e2 hd ?_
    walk_at "go"
    refine isC 3 _ _ _ e3 hd ?_
    walk_at "go"
    intro l1 hl1
    have hd1 := hd.same (same_new (o := .lst [V.bl (decide (i = 0)), V.bl (decide (i = 1)), V.bl (decide (i = 2)), V.bl (decide (i = 3))]) hl1)
    walk_at "go"
    refine isC 4 _ _ _ e4 hd1 ?_
    walk_at "go"
    refine isC 5 _ _ _ e5 hd1 ?_
    walk_at "go"
    refine isC 6 _ _ _ e6 hd1 ?_
    walk_at "go"
    refine isC 7 _ _ _ e7 hd1 ?_
    walk_at "go"
    intro l2 hl2
    have hd2 := hd1.same (same_new (o := .lst [V.bl (decide (i = 4)), V.bl (decide (i = 5)), V.bl (decide (i = 6)), V.bl (decide (i = 7))]) hl2)
    have n12 : l1 ≠ l2 := fun e => by rw [← e, upd_same] at hl2; cases hl2
    walk_at "go"
    refine ⟨l1, l2, _, _, rfl, rfl, by rw [upd_ne n12, upd_same], upd_same, (by show 8 ≤ sizeLine; decide), fun l3 hl3 => ?_⟩
    have hd3 := hd2.same (same_new (o := .lst ([V.bl (decide (i = 0)), V.bl (decide (i = 1)), V.bl (decide (i = 2)), V.bl (decide (i = 3))] ++ [V.bl (decide (i = 4)), V.bl (decide (i = 5)), V.bl (decide (i = 6)), V.bl (decide (i = 7))])) hl3)
    walk_at "go"
    refine g_tyL upd_same ?_
    walk_at "go"
    refine isC 8 _ _ _ e8 hd3 ?_
    walk_at "go"
    refine g_append upd_same (by show 8 < 100000; decide) ?_
    walk_at "go"
    intro l4 hl4
    have n34 : l3 ≠ l4 := fun e => by rw [← e, upd_same] at hl4; cases hl4
    have S5 := ((((same_new (o := .lst [V.bl (decide (i = 0)), V.bl (decide (i = 1)), V.bl (decide (i = 2)), V.bl (decide (i = 3))]) hl1).trans (same_new (o := .lst [V.bl (decide (i = 4)), V.bl (decide (i = 5)), V.bl (decide (i = 6)), V.bl (decide (i = 7))]) hl2)).trans
      (Same.mut (same_new (o := .lst ([V.bl (decide (i = 0)), V.bl (decide (i = 1)), V.bl (decide (i = 2)), V.bl (decide (i = 3))] ++ [V.bl (decide (i = 4)), V.bl (decide (i = 5)), V.bl (decide (i = 6)), V.bl (decide (i = 7))])) hl3)
        (o := .lst ([V.bl (decide (i = 0)), V.bl (decide (i = 1)), V.bl (decide (i = 2)), V.bl (decide (i = 3))] ++ [V.bl (decide (i = 4)), V.bl (decide (i = 5)), V.bl (decide (i = 6)), V.bl (decide (i = 7))] ++ [V.bl (decide (i = 8))])) hl3)).trans (same_new (o := .lst (kindW.map V.str)) hl4))
    have S6 := same_new (o := .lst (kindW.map V.str)) hl4
    have a3 := S6 l3 _ upd_same
    have a4 : upd _ l4 (.lst (kindW.map V.str)) l4 = some (.lst (kindW.map V.str)) := upd_same (H := upd (upd (upd (upd H' l1 (.lst [V.bl (decide (i = 0)), V.bl (decide (i = 1)), V.bl (decide (i = 2)), V.bl (decide (i = 3))])) l2 (.lst [V.bl (decide (i = 4)), V.bl (decide (i = 5)), V.bl (decide (i = 6)), V.bl (decide (i = 7))])) l3
      (.lst ([V.bl (decide (i = 0)), V.bl (decide (i = 1)), V.bl (decide (i = 2)), V.bl (decide (i = 3))] ++ [V.bl (decide (i = 4)), V.bl (decide (i = 5)), V.bl (decide (i = 6)), V.bl (decide (i = 7))]))) l3
        (.lst ([V.bl (decide (i = 0)), V.bl (decide (i = 1)), V.bl (decide (i = 2)), V.bl (decide (i = 3))] ++ [V.bl (decide (i = 4)), V.bl (decide (i = 5)), V.bl (decide (i = 6)), V.bl (decide (i = 7))] ++ [V.bl (decide (i = 8))])))
    have hi : i < 9 := (List.getElem?_eq_some_iff.mp hx).1
    have c9 : i = 0 ∨ i = 1 ∨ i = 2 ∨ i = 3 ∨ i = 4 ∨ i = 5 ∨ i = 6 ∨ i = 7 ∨ i = 8 := by omega
    -- of the nine answers one is True, at i
    have fA : ([V.bl (decide (i = 0)), V.bl (decide (i = 1)), V.bl (decide (i = 2)), V.bl (decide (i = 3))] ++ [V.bl (decide (i = 4)), V.bl (decide (i = 5)), V.bl (decide (i = 6)), V.bl (decide (i = 7))] ++ [V.bl (decide (i = 8))]).all flatV = true := rfl
    have nA : ([V.bl (decide (i = 0)), V.bl (decide (i = 1)), V.bl (decide (i = 2)), V.bl (decide (i = 3))] ++ [V.bl (decide (i = 4)), V.bl (decide (i = 5)), V.bl (decide (i = 6)), V.bl (decide (i = 7))] ++ [V.bl (decide (i = 8))]).countP (fun z => eqV z (.bl true)) = 1 := by
      rcases c9 with rfl | rfl | rfl | rfl | rfl | rfl | rfl | rfl | rfl <;> rfl
    have iA : ([V.bl (decide (i = 0)), V.bl (decide (i = 1)), V.bl (decide (i = 2)), V.bl (decide (i = 3))] ++ [V.bl (decide (i = 4)), V.bl (decide (i = 5)), V.bl (decide (i = 6)), V.bl (decide (i = 7))] ++ [V.bl (decide (i = 8))])[i]? = some (V.bl true) := by
      rcases c9 with rfl | rfl | rfl | rfl | rfl | rfl | rfl | rfl | rfl <;> rfl
    have mA : ∀ (m : Nat) (z' : V), m < i → ([V.bl (decide (i = 0)), V.bl (decide (i = 1)), V.bl (decide (i = 2)), V.bl (decide (i = 3))] ++ [V.bl (decide (i = 4)), V.bl (decide (i = 5)), V.bl (decide (i = 6)), V.bl (decide (i = 7))] ++ [V.bl (decide (i = 8))])[m]? = some z' → eqV z' (.bl true) = false := by
      intro m z' hm e
      have c8 : m = 0 ∨ m = 1 ∨ m = 2 ∨ m = 3 ∨ m = 4 ∨ m = 5 ∨ m = 6 ∨ m = 7 := by omega
      rcases c8 with rfl | rfl | rfl | rfl | rfl | rfl | rfl | rfl <;> (cases (Option.some.inj e); rw [decide_eq_false (by omega)]; rfl)
    generalize ([V.bl (decide (i = 0)), V.bl (decide (i = 1)), V.bl (decide (i = 2)), V.bl (decide (i = 3))] ++ [V.bl (decide (i = 4)), V.bl (decide (i = 5)), V.bl (decide (i = 6)), V.bl (decide (i = 7))] ++ [V.bl (decide (i = 8))]) = A at S5 S6 a3 a4 fA nA iA mA ⊢
    walk_at "go"
    refine g_tyL a3 ?_
    walk_at "go"
    refine ⟨l3, A, .bl true, rfl, rfl, SqL.of a3, rfl, fA, ?_⟩
    rw [nA]
    walk_at "go"
    refine ⟨C, .ty "ValueError", .type "ValueError", true, rfl, hd.same S5, R.exc, rfl, fun u r => r, R.val, ?_⟩
    walk_at "go"
    refine g_tyL a3 ?_
    walk_at "go"
    refine ⟨l3, A, .bl true, i, .bl true, rfl, rfl, SqL.of a3, rfl, fA, iA, rfl, mA, ?_⟩
    refine g_ixL (v := .str x) (SqL.of a4) (at_of (j := i) rfl (by rw [List.getElem?_map, hx]; rfl)) ?_
    exact k _ S5
end
end K02R
namespace K02R
open PySem PySem.Spec PyProof.Rows L2 Wd K02
local macro_rules | `(tactic| walk_at "gs") => `(tactic| repeat (first
  | with_reducible refine Wd.g_seq ?_
  | ((with_reducible show L2.Ends.nx _ _ _); (with_reducible refine Wd.g_nx ?_))
  | with_reducible refine Wd.g_asg ?_
  | ((with_reducible refine' Wd.g_var ?h1 ?_); (case h1 => exact rfl))
  | with_reducible refine Wd.g_c ?_
  | with_reducible refine Wd.g_op ?_
  | with_reducible refine Wd.g_un ?_
  | with_reducible refine Wd.g_I0 ?_
  | with_reducible refine Wd.g_U ?_
  | with_reducible refine Wd.g_eqI ?_
  | with_reducible refine Wd.g_neI ?_
  | with_reducible refine Wd.g_eqS ?_
  | with_reducible refine Wd.g_neS ?_
  | with_reducible refine Wd.g_eqB ?_
  | with_reducible refine Wd.g_neB ?_
  | with_reducible refine Wd.g_isN ?_
  | with_reducible refine Wd.g_notN ?_
  | with_reducible refine Wd.g_lc ?_
  | with_reducible refine Wd.g_yes ?_
  | with_reducible refine Wd.g_test ?_
  | with_reducible refine Wd.g_tB ?_
  | with_reducible refine Wd.g_bl ?_
  | with_reducible refine Wd.g_blI ?_
  | with_reducible refine Wd.g_and ?_
  | with_reducible refine Wd.g_or ?_
  | with_reducible refine Wd.g_not ?_
  | with_reducible refine Wd.g_andV ?_
  | with_reducible refine Wd.g_orV ?_
  | with_reducible refine Wd.g_notV ?_
  | with_reducible refine Wd.g_if ?_
  | with_reducible refine Wd.g_chain ?_
  | with_reducible refine Wd.g_chain3 ?_
  | with_reducible refine Wd.g_nil ?_
  | with_reducible refine Wd.g_cons ?_
  | with_reducible refine Wd.g_tup ?_
  | with_reducible refine Wd.g_lst ?_
  | with_reducible refine Wd.g_CB ?_
  | with_reducible refine Wd.g_call ?_
  | with_reducible refine Wd.g_callS ?_
  | with_reducible refine Wd.g_bm ?_
  | with_reducible refine Wd.g_bm0 ?_
  | with_reducible refine Wd.g_sl ?_
  | with_reducible refine Wd.g_part ?_
  | with_reducible refine Wd.g_part1 ?_
  | with_reducible refine Wd.g_noPart ?_
  | with_reducible refine Wd.g_next ?_
  | with_reducible refine Wd.g_name ?_
  | with_reducible refine Wd.g_sub ?_
  | with_reducible refine Wd.g_gnil ?_
  | with_reducible refine Wd.g_gcons ?_
  | with_reducible refine Wd.g_drop ?_
  | with_reducible refine Wd.g_ret ?_
  | with_reducible refine Wd.g_retN ?_
  | with_reducible refine Wd.g_brk ?_
  | with_reducible refine Wd.g_cont ?_
  | ((with_reducible show L2.Ends.bk _ _ _); (with_reducible refine Wd.g_bk ?_))
  | ((with_reducible show L2.Ends.ct _ _ _); (with_reducible refine Wd.g_ct ?_))
  | ((with_reducible show L2.Ends.rt _ _ _); (with_reducible refine Wd.g_rt ?_))
  | with_reducible refine Wd.g_for ?_
  | with_reducible refine Wd.g_rng1 ?_
  | with_reducible refine Wd.g_rng2 ?_
  | with_reducible refine Wd.g_iList ?_
  | with_reducible refine Wd.g_iTup ?_
  | ((with_reducible refine Wd.g_fit ?h1 ?_); (case h1 => exact rfl))
  | with_reducible refine Wd.g_max2 ?_
  | with_reducible refine Wd.g_min2 ?_
  | with_reducible refine Wd.g_int1B ?_
  | with_reducible refine L2.iteT ?_
  | with_reducible refine L2.iteF ?_
  | ((with_reducible refine Wd.g_itT ?h1 ?_); (case h1 => exact rfl))
  | ((with_reducible refine Wd.g_itF ?h1 ?_); (case h1 => exact rfl))))
theorem g_kind {K : PySem.W.Frag} {CD : Addr} {cs : List Addr} {tl : XK → Hp → VK → Prop} {H : Hp} {Q : VK} (h : tl (EKind K CD cs Q) H Q) : TKind K CD cs tl H Q := h
theorem keep_ext {H H' : Hp} (e : LamX.ExtN H H') : KeepT H H' := fun b xs h => e _ _ h (fun _ z => nomatch z)
theorem g_neB2 {K : PySem.W.Frag} {a b : Addr} {x y : Bool} {H : Hp} {Q : VK} (h1 : H a = some (.lst [.bl x, .bl y])) (h2 : H b = some (.lst [.bl x, .bl y])) (k : Q (.bl false) H) : rNeD K (.ref a) (.ref b) H Q :=
  ⟨.list [.bool x, .bool y], .list [.bool x, .bool y], .lst (SqL.of h1) (.cons (.bl _) (.cons (.bl _) .nil)), .lst (SqL.of h2) (.cons (.bl _) (.cons (.bl _) .nil)), by cases x <;> cases y <;> decide, by cases x <;> cases y <;> decide, by
    have : PyData.eqv (.list [.bool x, .bool y]) (.list [.bool x, .bool y]) = true := by cases x <;> cases y <;> simp [PyData.eqv, PyData.eqvAll]
    rw [this]; exact k⟩
theorem ne_of_eqD {K : PySem.W.Frag} {x y : V} {b : Bool} {H : Hp} {Q : VK} (h : rEqD K x y H fun v _ => v = .bl b) (k : Q (.bl (!b)) H) : rNeD K x y H Q := by
  obtain ⟨d, e, h1, h2, h3, h4, h5⟩ := h
  have : PyData.eqv d e = b := V.bl.inj h5
  exact ⟨d, e, h1, h2, h3, h4, by rw [this]; exact k⟩
theorem tabs_frmL {H H' : Hp} {S : Addr} {xs : List V} {T : List (Addr × Str)} (t : LamX.Tabs T H) (hS : H S = some (.lst xs)) (f : Frm S H H') : LamX.Tabs T H' := fun p hp => by
  obtain ⟨ps, h1, h2, h3⟩ := t p hp
  refine ⟨ps, f _ _ (ne_of h1 hS (fun z => nomatch z)) h1, h2, fun pos cv hc => ?_⟩
  obtain ⟨c', e1, e2⟩ := h3 pos cv hc
  exact ⟨c', e1, f _ _ (ne_of e2 hS (fun z => nomatch z)) e2⟩
theorem ok_bp : PyData.strOk ("BadPlan" : Str) = true := by decide +kernel
theorem ok_bw : PyData.strOk ("BadWindow" : Str) = true := by decide +kernel
theorem ok_bd : PyData.strOk ("BadDelays" : Str) = true := by decide +kernel
section
variable {P : Program} {w : World} {K : PySem.W.Frag} {mg : Str → Option Value} {base : Heap} {CP CW CB : Addr}
abbrev s_law : Stmt := top 53
theorem sc_law : FnScope ["_law_script", "_law_state", "_law_turn", "_law_plan_here", "_law_change", "_law_good_here", "_law_told"] ["_law_script"] (C8.fnScope s_law) := C8.fnScope_by (by decide +kernel)
def lamQ : Str := "law.<locals>.<lambda>"
def sp_law (K : PySem.W.Frag) (Pt : Addr) : Sp := fun vs H Q _ => ∃ (sc : Addr) (ns : List Int), vs = [.ref sc] ∧ SqL K H sc (ns.map V.int) ∧ ns.length ≤ 63 ∧ H Pt = some (.tbl #[]) ∧ ∀ H', Q (.bl true) H'
theorem ok_law (T : TxtZ K mg CP CW) {CD : Addr} {cs : List Addr} (R : Refs K mg CD cs) (RP : IsRef K CD cs 1 CP) (RW : IsRef K CD cs 0 CW) (RB : IsRef K CD cs 2 CB) {c Pt : Addr} (TB : LamX.TabB base mg c Pt)
    {f fk : Addr} {fdk : FuncData} {dV kV doc pm ct oc : Value} {an od : Option Addr} {osl : Array (Option Value)}
    (lk : K.lookup f = some ⟨oc, od, .func (PySem.W.fnOf "law" "law" (C8.fnArgs s_law) (C8.fnBody s_law) (C8.fnScope s_law) dV kV doc pm an (.ref c) ct), osl⟩) (hcd : PySem.W.codeIn K (.ref c) "law" = true)
    (Dk : C8.Def K mg "_law_kind" s_law_kind fk fdk) (bk : Binds K fdk ["_law_work"] [])
    (g_law_start : C8.Cal P w K mg base 1 "_law_start" (sp_start K) []) (g_law_drawn : C8.Cal P w K mg base 1 "_law_drawn" (sp_drawn K) []) (g_law_plan : C8.Cal P w K mg base 6 "_law_plan" (sp_plan K 5) []) (g_law_turned : C8.Cal P w K mg base 23 "_law_turned" (sp_turned K 22) []) (g_law_looks : C8.Cal P w K mg base 7 "_law_looks" (sp_looks 7) [])
    (g_judged : CalX P w K mg base 22 "judged" (sp_jdX K CP CW)) (g_run_plan : CalX P w K mg base 10 "run_plan" (sp_runX CP CB)) :
    FnOk P w K mg base C8.CX0 25 f (PySem.W.fnOf "law" "law" (C8.fnArgs s_law) (C8.fnBody s_law) (C8.fnScope s_law) dV kV doc pm an (.ref c) ct) ["_law_script"] (sp_law K Pt) := by
  refine fn_code lk hcd sc_law (fun vs H Q E h => ?_) fun A outer s H vs Q E hr h => ?_
  · obtain ⟨sc, ns, rfl, _⟩ := h; rfl
  · obtain ⟨sc, ns, rfl, hsc, hl, hT, q⟩ := h
    have nd := sc_law.nd
    obtain ⟨oc', od', dV', kV', doc', pm', an', cdv', ct', osl', rfl, lkk, hck⟩ := Dk.fn.ex
    refine ⟨_, (pss_cons (ps_set (i := 1) nd rfl (Or.inl rfl) (C8.pe_c g_law_start hr (by first | decide | exact Nat.le_refl _ | omega) (by rfl) (pa_cons (pv 0) pa_nil)))
      (pss_cons (ps_for PassesOwn.never rfl (pi_range1 rfl T.n_range (pa_cons pe_int pa_nil)) (pg_name (i := 2) nd rfl (Or.inl rfl)) (pss_cons (ps_set (i := 3) nd rfl (Or.inr rfl) (C8.pe_c g_law_plan hr (by first | decide | exact Nat.le_refl _ | omega) (by rfl) (pa_cons (pv 1) (pa_cons pe_int (pa_cons pe_int pa_nil)))))
      (pss_cons (ps_for PassesOwn.never rfl (pi_range1 rfl T.n_range (pa_cons (C8.pe_c g_law_drawn hr (by first | decide | exact Nat.le_refl _ | omega) (by rfl) (pa_cons (pv 1) (pa_cons pe_int pa_nil))) pa_nil)) (pg_name (i := 4) nd rfl (Or.inl rfl)) (pss_one (ps_if (PW.pt (pw_and (pt_val (pe_callB (r := rIsi K) call_isi (by rfl) T.n_isinstance (by decide +kernel) (pa_cons (pv 3) (pa_cons (pe_bltn (v := .ty "tuple") (by rfl) T.n_tuple (by decide +kernel) rfl) pa_nil)))) (pw_and1 (pt_cmpR (r := rNeD K) (op_neD hr.units) (pv 3) (pe_tup pa_nil) (nomark _))))) (pss_one (ps_set (i := 3) nd rfl (Or.inr rfl) (C8.pe_c g_law_turned hr (by first | decide | exact Nat.le_refl _ | omega) (by rfl) (pa_cons (pv 1) (pa_cons (pv 3) pa_nil))))) pss_nil)))
      (pss_cons (ps_if (pt_not (pt_val (pe_callB (r := rIsi K) call_isi (by rfl) T.n_isinstance (by decide +kernel) (pa_cons (pv 3) (pa_cons (pe_bltn (v := .ty "tuple") (by rfl) T.n_tuple (by decide +kernel) rfl) pa_nil))))) (pss_one (ps_set (i := 3) nd rfl (Or.inr rfl) (pe_tup (pa_cons pe_str (pa_cons (pe_tup (pa_cons (pv 3) pa_nil)) pa_nil))))) pss_nil)
      (pss_cons (ps_set (i := 5) nd rfl (Or.inl rfl) (pe_cmpR op_le (C8.pe_c g_law_looks hr (by first | decide | exact Nat.le_refl _ | omega) (by rfl) (pa_cons (pv 3) (pa_cons pe_int (pa_cons pe_int pa_nil)))) pe_int (nomark _)))
      (pss_cons (ps_set (i := 6) nd rfl (Or.inl rfl) (pe_lst (pa_cons (pe_cmpR (r := rEqD K) (op_eqD hr.units) (LamX.pe_lamcall (k := 22) (T := [(Pt, lamQ)]) (TT := TKind K CD cs) (by rfl) Dk.mgf Dk.kp lkk hck bk sc_law_kind rfl (Or.inl rfl) (kind_gives R) TB rfl (List.mem_singleton.mpr rfl) (fun p hp _ => by rw [List.mem_singleton.mp hp]; rfl) hr (LamX.lamS_by (show LamX.lamSB (C8.fnScope s_law) _ = true by decide +kernel)) rfl (fun _ _ _ _ _ => rfl) (fun A outer s H E f c' hr2 => (pe_cX g_judged hr2 (by first | decide | exact Nat.le_refl _ | omega) (by rfl) (fun σ => passAt (takes_of rfl rfl rfl rfl) σ) (pa_cons (pe_tup (pa_cons pe_int (pa_cons pe_int pa_nil))) (pa_cons (pv 3) pa_nil))))) pe_str (nomark _)) pa_nil)))
      (pss_cons (ps_expr (pe_bmK (K := K) rfl PySem.F.plainAttrs_list PySem.F.slot_list_append PySem.F.type_list_append mt_append (pv 6) (pa_cons (pe_cmpR (r := rEqD K) (op_eqD hr.units) (LamX.pe_lamcall (k := 22) (T := [(Pt, lamQ)]) (TT := TKind K CD cs) (by rfl) Dk.mgf Dk.kp lkk hck bk sc_law_kind rfl (Or.inl rfl) (kind_gives R) TB rfl (List.mem_singleton.mpr rfl) (fun p hp _ => by rw [List.mem_singleton.mp hp]; rfl) hr (LamX.lamS_by (show LamX.lamSB (C8.fnScope s_law) _ = true by decide +kernel)) rfl (fun _ _ _ _ _ => rfl) (fun A outer s H E f c' hr2 => (pe_cX g_run_plan hr2 (by first | decide | exact Nat.le_refl _ | omega) (by rfl) (fun σ => passAt (takes_of rfl rfl rfl rfl) σ) (pa_cons (pv 3) (pa_cons (pe_lst pa_nil) pa_nil))))) pe_str (nomark _)) pa_nil)))
      (pss_cons (ps_if (pt_cmpR (r := rNeD K) (op_neD hr.units) (pv 6) (pe_lst (pa_cons (pe_not (pv 5)) (pa_cons (pe_not (pv 5)) pa_nil))) (nomark _)) (pss_one (ps_ret pe_bl)) pss_nil)
      (pss_one (ps_if (pt_cmpR (r := rNeD K) (op_neD hr.units) (LamX.pe_lamcall (k := 22) (T := [(Pt, lamQ)]) (TT := TKind K CD cs) (by rfl) Dk.mgf Dk.kp lkk hck bk sc_law_kind rfl (Or.inl rfl) (kind_gives R) TB rfl (List.mem_singleton.mpr rfl) (fun p hp _ => by rw [List.mem_singleton.mp hp]; rfl) hr (LamX.lamS_by (show LamX.lamSB (C8.fnScope s_law) _ = true by decide +kernel)) rfl (fun _ _ _ _ _ => rfl) (fun A outer s H E f c' hr2 => (pe_cX g_judged hr2 (by first | decide | exact Nat.le_refl _ | omega) (by rfl) (fun σ => passAt (takes_of rfl rfl rfl rfl) σ) (pa_cons (pe_tup (pa_cons pe_int (pa_cons pe_int pa_nil))) (pa_cons (pv 3) pa_nil))))) pe_str (nomark _)) (pss_one (ps_ret pe_bl)) pss_nil))))))))))
      (pss_one (ps_ret pe_bl)))), ?_⟩
    walk_at "go"
    refine ⟨noT H, sc, ns, rfl, noT_list hsc, noT_same H, hl, fun H1 S nS s1 d1 => ?_⟩
    have tb1 : LamX.Tabs [(Pt, lamQ)] H1 := fun p hp => by
      rw [List.mem_singleton.mp hp]
      exact .nil (s1 _ _ hT)
    walk_at "go"
    refine w_range (by decide) (by decide) (fun i σ H' => ∃ v2 v3 v4 v5 v6 : Option V, σ = [some (.ref sc), some (.ref S), v2, v3, v4, v5, v6] ∧ Dst K (noT H) H' S ∧ LamX.Tabs [(Pt, lamQ)] H') ?_ ?_ ?_
    · exact ⟨_, _, _, _, _, rfl, d1, tb1⟩
    · clear d1 tb1
      rintro i σ H0 hi' ⟨v2, v3, v4, v5, v6, rfl, d, tb⟩
      walk_at "go"
      refine use_plan (l := 2) d rfl (by decide) (by decide) fun H2 v0 p f2 d2 pA okp => ?_
      have tb2 := tabs_frm tb d f2
      have g0 := PlA_da p pA
      have sh0 : Sh 9 (plD p) := plD_sh p 4 2 okp
      clear pA okp f2 tb d
      generalize plD p = d0 at g0 sh0
      walk_at "go"
      refine use_drawn (n := 3) d2 (by decide) (by decide) fun H3 z f3 d3 z0 z1 => ?_
      have tb3 := tabs_frm tb2 d2 f3
      have g3 := DA_keep (keepT_frm d2 f3) _ _ g0
      clear g0 tb2 f3
      walk_at "go"
      refine w_range (by omega) (by omega) (fun j σ H' => ∃ (v4 : Option V) (v : V) (dd : PyData), σ = [some (.ref sc), some (.ref S), some (.int i), some v, v4, v5, v6] ∧ DA H' v dd ∧ Sh (9 + 12 * j) dd ∧ Dst K (noT H) H' S ∧ LamX.Tabs [(Pt, lamQ)] H') ?_ ?_ ?_
      · exact ⟨_, v0, d0, rfl, g3, sh0, d3, tb3⟩
      · clear g3 sh0 d3 tb3
        rintro j σ H4 hj ⟨v4, v, dd, rfl, gv, sh, d4, tb4⟩
        have jl : j ≤ 1 := by omega
        walk_at "go"
        refine use_isT gv ?_
        cases hT2 : isTup dd with
        | false =>
          walk_at "go"
          exact ⟨_, v, dd, rfl, gv, sh.mono (by omega), d4, tb4⟩
        | true =>
        walk_at "go"
        intro t5 ht5
        have s5 := same_new (o := .tup []) ht5
        refine use_neN (DA_keep (keepT_same s5) _ _ gv) sh (by omega) upd_same ?_
        generalize upd H4 t5 (.tup []) = H5 at s5
        have g5 := DA_keep (keepT_same s5) _ _ gv
        have d5 := d4.same s5
        have tb5 := tabs_same tb4 s5
        cases hN : isNil dd with
        | true =>
          walk_at "go"
          exact ⟨_, v, dd, rfl, g5, sh.mono (by omega), d5, tb5⟩
        | false =>
        walk_at "go"
        refine use_turned d5 g5 hT2 hN sh (by omega) (by omega) fun H6 v6' d6' f6 d6 g6 sh6 => ?_
        walk_at "go"
        exact ⟨_, v6', d6', rfl, g6, sh6.mono (by omega), d6, tabs_frm tb5 d5 f6⟩
      clear g3 sh0 d3 tb3
      rintro σ H4 ⟨v4, v, dd, rfl, gv, sh, d4, tb4⟩
      have sh : Sh 33 dd := sh.mono (by omega)
      walk_at "gs"
      refine g_join (fun σ H' => ∃ (v4 : Option V) (v : V) (dd : PyData), σ = [some (.ref sc), some (.ref S), some (.int i), some v, v4, v5, v6] ∧ DA H' v dd ∧ Sh 35 dd ∧ Dst K (noT H) H' S ∧ LamX.Tabs [(Pt, lamQ)] H') ?_ ?_
      case refine_2 =>
        intro N' hk
        walk_at "go"
        refine use_isT gv ?_
        cases hT2 : isTup dd with
        | true =>
          walk_at "go"
          exact hk _ _ ⟨_, v, dd, rfl, gv, sh.mono (by decide), d4, tb4⟩
        | false =>
          walk_at "go"
          intro b1 hb1
          have s1 := same_new (o := .tup [v]) hb1
          have e1 := upd_same (H := H4) (a := b1) (o := .tup [v])
          have g1 := DA_keep (keepT_same s1) _ _ gv
          generalize upd H4 b1 (.tup [v]) = H5 at s1 e1 g1
          walk_at "go"
          intro b2 hb2
          have s2 := same_new (o := .tup [.str "row", .ref b1]) hb2
          have e2 := upd_same (H := H5) (a := b2) (o := .tup [.str "row", .ref b1])
          have g2 := DA_keep (keepT_same s2) _ _ g1
          have e12 := s2 _ _ e1
          generalize upd H5 b2 (.tup [.str "row", .ref b1]) = H6 at s2 e2 g2 e12
          have s12 := s1.trans s2
          walk_at "go"
          exact hk _ _ ⟨_, .ref b2, .tuple [.str "row", .tuple [dd]], rfl, .tup e2 (.cons (.str _) (.cons (.tup e12 (.cons g2 .nil)) .nil)), .two (.str ok_row) (.one sh), d4.same s12, tabs_same tb4 s12⟩
      clear gv sh d4 tb4
      rintro σ H5 ⟨v4, v, dd, rfl, gv, sh, d5, tb5⟩
      walk_at "go"
      refine use_looks (n := 6) (l := 0) gv sh (by decide) (by decide) rfl (by decide) (by decide) fun H6 s6 => ?_
      have g6 := DA_keep (keepT_same s6) _ _ gv
      have d6 := d5.same s6
      have tb6 := tabs_same tb5 s6
      clear gv d5 tb5 s6
      have eg : decide (((K02R.lk 6 0 dd : Nat) : Int) ≤ 30) = decide (K02R.lk 6 0 dd ≤ 30) := decide_eq_decide.mpr (by omega)
      refine Wd.g_c ?_
      refine Wd.g_I0 ?_
      rw [eg]
      clear eg
      generalize hg : decide (K02R.lk 6 0 dd ≤ 30) = b
      have gt : 30 < K02R.lk 6 0 dd → b = false := fun z => by rw [← hg]; exact decide_eq_false (by omega)
      have le : K02R.lk 6 0 dd ≤ 30 → b = true := fun z => by rw [← hg]; exact decide_eq_true z
      clear hg
      refine Wd.g_name ?_
      refine Wd.g_nx ?_
      refine Wd.g_seq ?_
      refine Wd.g_asg ?_
      refine Wd.g_lst ?_
      refine Wd.g_cons ?_
      refine g_joinV (fun x H' => x = .bl (!b) ∧ DA H' v dd ∧ Dst K (noT H) H' S ∧ LamX.Tabs [(Pt, lamQ)] H') ?_ ?_
      case refine_2 =>
        intro N' hk
        walk_at "go"
        refine g_lam tb6 fun H7 x7 tb7 => ?_
        have g7 := DA_keep (keep_ext x7) _ _ g6
        have d7 := d6.ext x7
        refine g_kind ?_
        walk_at "go"
        intro W hW
        have s8 := same_new (o := .tup [.int 0, .int 5]) hW
        have eW := upd_same (H := H7) (a := W) (o := .tup [.int 0, .int 5])
        generalize upd H7 W (.tup [.int 0, .int 5]) = H8 at s8 eW
        walk_at "go"
        refine ⟨W, 0, 5, v, dd, 35, rfl, eW, fun no => absurd ⟨by decide, by decide, by decide⟩ no, fun _ => ⟨DA_keep (keepT_same s8) _ _ g7, sh, by decide, fun z H9 s9 => ?_, fun z H9 t s9 tv => ?_⟩⟩
        · refine ⟨1, CP, "BadPlan", rfl, HasX.none, RP, rfl, fun H10 s10 => ?_⟩
          have s70 := (s8.trans s9).trans s10
          walk_at "go"
          refine str_eqS ok_bp ok_bp ?_
          exact hk _ _ ⟨by rw [gt z]; rfl, DA_keep (keepT_same s70) _ _ g7, d7.same s70, tabs_same tb7 s70⟩
        · have s79 := s8.trans s9
          walk_at "go"
          refine tup_eqS tv ok_bp ?_
          exact hk _ _ ⟨by rw [le z]; rfl, DA_keep (keepT_same s79) _ _ g7, d7.same s79, tabs_same tb7 s79⟩
      clear g6 d6 tb6
      rintro x1 H8 ⟨rfl, g8, d8, tb8⟩
      walk_at "go"
      intro L hL
      have s9 := same_new (o := .lst [.bl (!b)]) hL
      have eL := upd_same (H := H8) (a := L) (o := .lst [.bl (!b)])
      have nL : L ≠ S := d8.ne hL
      have bL := d8.fresh hL
      have g9 := DA_keep (keepT_same s9) _ _ g8
      have d9 := d8.same s9
      have tb9 := tabs_same tb8 s9
      generalize upd H8 L (.lst [.bl (!b)]) = H9 at s9 eL g9 d9 tb9
      clear s9 g8 d8 tb8 hL
      walk_at "go"
      refine g_tyL eL ?_
      refine Wd.g_cons ?_
      refine g_joinV (fun x H' => x = .bl (!b) ∧ DA H' v dd ∧ Dst K (noT H) H' S ∧ LamX.Tabs [(Pt, lamQ)] H' ∧ H' L = some (.lst [.bl (!b)])) ?_ ?_
      case refine_2 =>
        intro N' hk
        walk_at "go"
        refine g_lam tb9 fun H10 x10 tb10 => ?_
        have g10 := DA_keep (keep_ext x10) _ _ g9
        have d10 := d9.ext x10
        have eL10 := x10 _ _ eL (fun _ z => nomatch z)
        refine g_kind ?_
        walk_at "go"
        intro M hM
        have s11 := same_new (o := .lst []) hM
        have eM : upd H10 M (.lst []) M = some (.lst (([] : List Int).map V.int)) := upd_same
        generalize upd H10 M (.lst []) = H11 at s11 eM
        walk_at "go"
        refine ⟨v, dd, 35, M, [], rfl, DA_keep (keepT_same s11) _ _ g10, sh, by decide, eM, by decide, fun z H12 s12 => ?_, fun z => ⟨fun H12 zz LL ns t s12 hz hLL => ?_, fun H12 x n s12 hx => ?_⟩⟩
        · refine ⟨1, CP, "BadPlan", rfl, HasX.none, RP, rfl, fun H13 s13 => ?_⟩
          have s14 := (s11.trans s12).trans s13
          walk_at "go"
          refine str_eqS ok_bp ok_bp ?_
          exact hk _ _ ⟨by rw [gt z]; rfl, DA_keep (keepT_same s14) _ _ g10, d10.same s14, tabs_same tb10 s14, s14 _ _ eL10⟩
        · have s14 := s11.trans s12
          walk_at "go"
          refine tup_eqS (tupV_run hz hLL) ok_bp ?_
          exact hk _ _ ⟨by rw [le z]; rfl, DA_keep (keepT_same s14) _ _ g10, d10.same s14, tabs_same tb10 s14, s14 _ _ eL10⟩
        · refine ⟨2, CB, "BadDelays", rfl, HasX.some hx, RB, rfl, fun H13 s13 => ?_⟩
          have s14 := (s11.trans s12).trans s13
          walk_at "go"
          refine str_eqS ok_bd ok_bp ?_
          exact hk _ _ ⟨by rw [le z]; rfl, DA_keep (keepT_same s14) _ _ g10, d10.same s14, tabs_same tb10 s14, s14 _ _ eL10⟩
      clear g9 d9 tb9 eL
      rintro x2 H10 ⟨rfl, g10, d10, tb10, eL⟩
      walk_at "go"
      refine g_append eL (by show 1 < 100000; decide) ?_
      have k11 : KeepT H10 (upd H10 L (.lst ([.bl (!b)] ++ [.bl (!b)]))) := keepT_lst eL
      have d11 := d10.mut (o := .lst ([.bl (!b)] ++ [.bl (!b)])) nL bL
      have g11 := DA_keep k11 _ _ g10
      have tb11 : LamX.Tabs [(Pt, lamQ)] (upd H10 L (.lst ([.bl (!b)] ++ [.bl (!b)]))) := tabs_frmL tb10 eL .set
      have e11 : upd H10 L (.lst ([.bl (!b)] ++ [.bl (!b)])) L = some (.lst [.bl (!b), .bl (!b)]) := upd_same
      generalize upd H10 L (.lst ([.bl (!b)] ++ [.bl (!b)])) = H11 at d11 g11 tb11 e11
      clear k11 g10 d10 tb10 eL
      walk_at "go"
      intro L2 hL2
      have s12 := same_new (o := .lst [.bl (!b), .bl (!b)]) hL2
      refine g_neB2 (s12 _ _ e11) upd_same ?_
      have g12 := DA_keep (keepT_same s12) _ _ g11
      have d12 := d11.same s12
      have tb12 := tabs_same tb11 s12
      generalize upd H11 L2 (.lst [.bl (!b), .bl (!b)]) = H12 at g12 d12 tb12
      walk_at "go"
      refine g_lam tb12 fun H13 x13 tb13 => ?_
      have g13 := DA_keep (keep_ext x13) _ _ g12
      have d13 := d12.ext x13
      refine g_kind ?_
      walk_at "go"
      intro W hW
      have s14 := same_new (o := .tup [.int 6, .int 5]) hW
      have eW := upd_same (H := H13) (a := W) (o := .tup [.int 6, .int 5])
      generalize upd H13 W (.tup [.int 6, .int 5]) = H14 at s14 eW
      walk_at "go"
      refine ⟨W, 6, 5, v, dd, 35, rfl, eW, fun _ => ?_, fun y => absurd y.2.1 (by decide)⟩
      refine ⟨0, CW, "BadWindow", rfl, HasX.none, RW, rfl, fun H15 s15 => ?_⟩
      have s135 := s14.trans s15
      walk_at "go"
      refine ne_of_eqD (str_eqS (Q := fun v _ => v = .bl (decide (("BadWindow" : Str) = "BadWindow"))) ok_bw ok_bw rfl) ?_
      rw [decide_eq_true rfl]
      walk_at "go"
      exact ⟨_, _, _, _, _, rfl, d13.same s135, tabs_same tb13 s135⟩
    · rintro σ H' ⟨v2, v3, v4, v5, v6, rfl, d, tb⟩
      walk_at "go"
      exact q H'
end
end K02R
namespace K02R
open PySem PySem.Spec PyProof.Rows L2 Wd K02
theorem law_at {l : PySem.W.OpenLaw} {w : World} {K : PySem.W.Frag} {h : Heap} {mg : Str → Option Value} {fa : Addr} (X : K.In h) (G : h.Ns mainGlobals mg) (hfa : mg "law" = some (.ref fa))
    {f_is_number : Addr} {oc_is_number kV_is_number dc_is_number pm_is_number cd_is_number ct_is_number : Value} {od_is_number an_is_number : Option Addr} {sl_is_number : Array (Option Value)}
    {f_is_range : Addr} {oc_is_range kV_is_range dc_is_range pm_is_range cd_is_range ct_is_range : Value} {od_is_range an_is_range : Option Addr} {sl_is_range : Array (Option Value)}
    {f_has_form : Addr} {oc_has_form kV_has_form dc_has_form pm_has_form cd_has_form ct_has_form : Value} {od_has_form an_has_form : Option Addr} {sl_has_form : Array (Option Value)}
    {f_plans_in : Addr} {oc_plans_in kV_plans_in dc_plans_in pm_plans_in cd_plans_in ct_plans_in : Value} {od_plans_in an_plans_in : Option Addr} {sl_plans_in : Array (Option Value)}
    {f_check_plan : Addr} {oc_check_plan kV_check_plan dc_check_plan pm_check_plan cd_check_plan ct_check_plan : Value} {od_check_plan an_check_plan : Option Addr} {sl_check_plan : Array (Option Value)}
    {f_run_plan : Addr} {oc_run_plan kV_run_plan dc_run_plan pm_run_plan cd_run_plan ct_run_plan : Value} {od_run_plan an_run_plan : Option Addr} {sl_run_plan : Array (Option Value)}
    {f_check_window : Addr} {oc_check_window kV_check_window dc_check_window pm_check_window cd_check_window ct_check_window : Value} {od_check_window an_check_window : Option Addr} {sl_check_window : Array (Option Value)}
    {f_first_bite : Addr} {oc_first_bite kV_first_bite dc_first_bite pm_first_bite cd_first_bite ct_first_bite : Value} {od_first_bite an_first_bite : Option Addr} {sl_first_bite : Array (Option Value)}
    {f_holds : Addr} {oc_holds kV_holds dc_holds pm_holds cd_holds ct_holds : Value} {od_holds an_holds : Option Addr} {sl_holds : Array (Option Value)}
    {f_spread : Addr} {oc_spread kV_spread dc_spread pm_spread cd_spread ct_spread : Value} {od_spread an_spread : Option Addr} {sl_spread : Array (Option Value)}
    {f_way_to : Addr} {oc_way_to kV_way_to dc_way_to pm_way_to cd_way_to ct_way_to : Value} {od_way_to an_way_to : Option Addr} {sl_way_to : Array (Option Value)}
    {f_goals_of_rounds : Addr} {oc_goals_of_rounds kV_goals_of_rounds dc_goals_of_rounds pm_goals_of_rounds cd_goals_of_rounds ct_goals_of_rounds : Value} {od_goals_of_rounds an_goals_of_rounds : Option Addr} {sl_goals_of_rounds : Array (Option Value)}
    {f_delays_of_rounds : Addr} {oc_delays_of_rounds kV_delays_of_rounds dc_delays_of_rounds pm_delays_of_rounds cd_delays_of_rounds ct_delays_of_rounds : Value} {od_delays_of_rounds an_delays_of_rounds : Option Addr} {sl_delays_of_rounds : Array (Option Value)}
    {f_bite_of_rounds : Addr} {oc_bite_of_rounds kV_bite_of_rounds dc_bite_of_rounds pm_bite_of_rounds cd_bite_of_rounds ct_bite_of_rounds : Value} {od_bite_of_rounds an_bite_of_rounds : Option Addr} {sl_bite_of_rounds : Array (Option Value)}
    {f_judged : Addr} {oc_judged kV_judged dc_judged pm_judged cd_judged ct_judged : Value} {od_judged an_judged : Option Addr} {sl_judged : Array (Option Value)}
    {f_law_start : Addr} {oc_law_start kV_law_start dc_law_start pm_law_start cd_law_start ct_law_start : Value} {od_law_start an_law_start : Option Addr} {sl_law_start : Array (Option Value)}
    {f_law_drawn : Addr} {oc_law_drawn kV_law_drawn dc_law_drawn pm_law_drawn cd_law_drawn ct_law_drawn : Value} {od_law_drawn an_law_drawn : Option Addr} {sl_law_drawn : Array (Option Value)}
    {f_law_kind : Addr} {oc_law_kind kV_law_kind dc_law_kind pm_law_kind cd_law_kind ct_law_kind : Value} {od_law_kind an_law_kind : Option Addr} {sl_law_kind : Array (Option Value)}
    {f_law_plan : Addr} {oc_law_plan kV_law_plan dc_law_plan pm_law_plan cd_law_plan ct_law_plan : Value} {od_law_plan an_law_plan : Option Addr} {sl_law_plan : Array (Option Value)}
    {f_law_turned : Addr} {oc_law_turned kV_law_turned dc_law_turned pm_law_turned cd_law_turned ct_law_turned : Value} {od_law_turned an_law_turned : Option Addr} {sl_law_turned : Array (Option Value)}
    {f_law_looks : Addr} {oc_law_looks kV_law_looks dc_law_looks pm_law_looks cd_law_looks ct_law_looks : Value} {od_law_looks an_law_looks : Option Addr} {sl_law_looks : Array (Option Value)}
    {fa0 : Addr} {oc_law kV_law dc_law pm_law ct_law : Value} {od_law an_law : Option Addr} {sl_law : Array (Option Value)}
    {C_Run : Addr}
    {f_Run_init : Addr} {oc_Run_init kV_Run_init dc_Run_init pm_Run_init cd_Run_init ct_Run_init : Value} {od_Run_init an_Run_init : Option Addr} {sl_Run_init : Array (Option Value)}
    {f_Run_take : Addr} {oc_Run_take kV_Run_take dc_Run_take pm_Run_take cd_Run_take ct_Run_take : Value} {od_Run_take an_Run_take : Option Addr} {sl_Run_take : Array (Option Value)}
    {f_Run_follow : Addr} {oc_Run_follow kV_Run_follow dc_Run_follow pm_Run_follow cd_Run_follow ct_Run_follow : Value} {od_Run_follow an_Run_follow : Option Addr} {sl_Run_follow : Array (Option Value)}
    {C_Watcher : Addr}
    {f_Watcher_init : Addr} {oc_Watcher_init kV_Watcher_init dc_Watcher_init pm_Watcher_init cd_Watcher_init ct_Watcher_init : Value} {od_Watcher_init an_Watcher_init : Option Addr} {sl_Watcher_init : Array (Option Value)}
    {f_Watcher_gap_behind_pat : Addr} {oc_Watcher_gap_behind_pat kV_Watcher_gap_behind_pat dc_Watcher_gap_behind_pat pm_Watcher_gap_behind_pat cd_Watcher_gap_behind_pat ct_Watcher_gap_behind_pat : Value} {od_Watcher_gap_behind_pat an_Watcher_gap_behind_pat : Option Addr} {sl_Watcher_gap_behind_pat : Array (Option Value)}
    {f_Watcher_gap_behind_work : Addr} {oc_Watcher_gap_behind_work kV_Watcher_gap_behind_work dc_Watcher_gap_behind_work pm_Watcher_gap_behind_work cd_Watcher_gap_behind_work ct_Watcher_gap_behind_work : Value} {od_Watcher_gap_behind_work an_Watcher_gap_behind_work : Option Addr} {sl_Watcher_gap_behind_work : Array (Option Value)}
    {f_Watcher_gaps_ahead_of_pat : Addr} {oc_Watcher_gaps_ahead_of_pat kV_Watcher_gaps_ahead_of_pat dc_Watcher_gaps_ahead_of_pat pm_Watcher_gaps_ahead_of_pat cd_Watcher_gaps_ahead_of_pat ct_Watcher_gaps_ahead_of_pat : Value} {od_Watcher_gaps_ahead_of_pat an_Watcher_gaps_ahead_of_pat : Option Addr} {sl_Watcher_gaps_ahead_of_pat : Array (Option Value)}
    {f_Watcher_gaps_ahead_of_work : Addr} {oc_Watcher_gaps_ahead_of_work kV_Watcher_gaps_ahead_of_work dc_Watcher_gaps_ahead_of_work pm_Watcher_gaps_ahead_of_work cd_Watcher_gaps_ahead_of_work ct_Watcher_gaps_ahead_of_work : Value} {od_Watcher_gaps_ahead_of_work an_Watcher_gaps_ahead_of_work : Option Addr} {sl_Watcher_gaps_ahead_of_work : Array (Option Value)}
    {C_PatWay : Addr}
    {f_PatWay_init : Addr} {oc_PatWay_init kV_PatWay_init dc_PatWay_init pm_PatWay_init cd_PatWay_init ct_PatWay_init : Value} {od_PatWay_init an_PatWay_init : Option Addr} {sl_PatWay_init : Array (Option Value)}
    {f_PatWay_lead : Addr} {oc_PatWay_lead kV_PatWay_lead dc_PatWay_lead pm_PatWay_lead cd_PatWay_lead ct_PatWay_lead : Value} {od_PatWay_lead an_PatWay_lead : Option Addr} {sl_PatWay_lead : Array (Option Value)}
    {C_WorkWay : Addr}
    {f_WorkWay_init : Addr} {oc_WorkWay_init kV_WorkWay_init dc_WorkWay_init pm_WorkWay_init cd_WorkWay_init ct_WorkWay_init : Value} {od_WorkWay_init an_WorkWay_init : Option Addr} {sl_WorkWay_init : Array (Option Value)}
    {f_WorkWay_lead : Addr} {oc_WorkWay_lead kV_WorkWay_lead dc_WorkWay_lead pm_WorkWay_lead cd_WorkWay_lead ct_WorkWay_lead : Value} {od_WorkWay_lead an_WorkWay_lead : Option Addr} {sl_WorkWay_lead : Array (Option Value)}
    {C_RowWay : Addr}
    {f_RowWay_init : Addr} {oc_RowWay_init kV_RowWay_init dc_RowWay_init pm_RowWay_init cd_RowWay_init ct_RowWay_init : Value} {od_RowWay_init an_RowWay_init : Option Addr} {sl_RowWay_init : Array (Option Value)}
    {f_RowWay_lead : Addr} {oc_RowWay_lead kV_RowWay_lead dc_RowWay_lead pm_RowWay_lead cd_RowWay_lead ct_RowWay_lead : Value} {od_RowWay_lead an_RowWay_lead : Option Addr} {sl_RowWay_lead : Array (Option Value)}
    {C_EitherWay : Addr}
    {f_EitherWay_init : Addr} {oc_EitherWay_init kV_EitherWay_init dc_EitherWay_init pm_EitherWay_init cd_EitherWay_init ct_EitherWay_init : Value} {od_EitherWay_init an_EitherWay_init : Option Addr} {sl_EitherWay_init : Array (Option Value)}
    {f_EitherWay_lead : Addr} {oc_EitherWay_lead kV_EitherWay_lead dc_EitherWay_lead pm_EitherWay_lead cd_EitherWay_lead ct_EitherWay_lead : Value} {od_EitherWay_lead an_EitherWay_lead : Option Addr} {sl_EitherWay_lead : Array (Option Value)}
    {C_LoopWay : Addr}
    {f_LoopWay_init : Addr} {oc_LoopWay_init kV_LoopWay_init dc_LoopWay_init pm_LoopWay_init cd_LoopWay_init ct_LoopWay_init : Value} {od_LoopWay_init an_LoopWay_init : Option Addr} {sl_LoopWay_init : Array (Option Value)}
    {f_LoopWay_lead : Addr} {oc_LoopWay_lead kV_LoopWay_lead dc_LoopWay_lead pm_LoopWay_lead cd_LoopWay_lead ct_LoopWay_lead : Value} {od_LoopWay_lead an_LoopWay_lead : Option Addr} {sl_LoopWay_lead : Array (Option Value)}
    {cc Pt : Addr} {occ : Value} {odc : Option Addr} {slc : Array (Option Value)} {vsc : Array Value}
    {t_LONGEST_WORK : Tok}
    {t_MOST_TIMES : Tok}
    {t_LONGEST_ROW : Tok}
    {t_MOST_PLANS : Tok}
    {t_MOST_DEEP : Tok}
    {t_MOST_LOOPS : Tok}
    {t_GREATEST_HIGH : Tok}
    {CD C_0 C_1 C_2 C_3 C_4 C_5 C_6 C_7 C_8 : Addr}
    {nm qB : Str} {NB : Addr} {bsB : List Value} {snB : List Str} {subB : List Value} {abB : Bool} {colB : Option Bool} {ddB : Option Addr} {m0 m1 m2 m3 m5 : Option Value}
    {f_BadDelays_init : Addr} {oc_BadDelays_init kV_BadDelays_init dc_BadDelays_init pm_BadDelays_init cd_BadDelays_init ct_BadDelays_init : Value} {od_BadDelays_init an_BadDelays_init : Option Addr} {sl_BadDelays_init : Array (Option Value)}
    (a_is_number : PySem.W.nsIn K mainGlobals "is_number" = some (some (.ref f_is_number)))
    (l_is_number : K.lookup f_is_number = some ⟨oc_is_number, od_is_number, .func (PySem.W.fnOf "is_number" "is_number" (C8.fnArgs s_is_number) (C8.fnBody s_is_number) (C8.fnScope s_is_number) .none kV_is_number dc_is_number pm_is_number an_is_number cd_is_number ct_is_number), sl_is_number⟩)
    (c_is_number : PySem.W.codeIn K cd_is_number "is_number" = true)
    (k_is_number : PySem.W.keepIn K (.ref f_is_number) = true)
    (a_is_range : PySem.W.nsIn K mainGlobals "is_range" = some (some (.ref f_is_range)))
    (l_is_range : K.lookup f_is_range = some ⟨oc_is_range, od_is_range, .func (PySem.W.fnOf "is_range" "is_range" (C8.fnArgs s_is_range) (C8.fnBody s_is_range) (C8.fnScope s_is_range) .none kV_is_range dc_is_range pm_is_range an_is_range cd_is_range ct_is_range), sl_is_range⟩)
    (c_is_range : PySem.W.codeIn K cd_is_range "is_range" = true)
    (k_is_range : PySem.W.keepIn K (.ref f_is_range) = true)
    (a_has_form : PySem.W.nsIn K mainGlobals "has_form" = some (some (.ref f_has_form)))
    (l_has_form : K.lookup f_has_form = some ⟨oc_has_form, od_has_form, .func (PySem.W.fnOf "has_form" "has_form" (C8.fnArgs s_has_form) (C8.fnBody s_has_form) (C8.fnScope s_has_form) .none kV_has_form dc_has_form pm_has_form an_has_form cd_has_form ct_has_form), sl_has_form⟩)
    (c_has_form : PySem.W.codeIn K cd_has_form "has_form" = true)
    (k_has_form : PySem.W.keepIn K (.ref f_has_form) = true)
    (a_plans_in : PySem.W.nsIn K mainGlobals "plans_in" = some (some (.ref f_plans_in)))
    (l_plans_in : K.lookup f_plans_in = some ⟨oc_plans_in, od_plans_in, .func (PySem.W.fnOf "plans_in" "plans_in" (C8.fnArgs s_plans_in) (C8.fnBody s_plans_in) (C8.fnScope s_plans_in) .none kV_plans_in dc_plans_in pm_plans_in an_plans_in cd_plans_in ct_plans_in), sl_plans_in⟩)
    (c_plans_in : PySem.W.codeIn K cd_plans_in "plans_in" = true)
    (k_plans_in : PySem.W.keepIn K (.ref f_plans_in) = true)
    (a_check_plan : PySem.W.nsIn K mainGlobals "check_plan" = some (some (.ref f_check_plan)))
    (l_check_plan : K.lookup f_check_plan = some ⟨oc_check_plan, od_check_plan, .func (PySem.W.fnOf "check_plan" "check_plan" (C8.fnArgs s_check_plan) (C8.fnBody s_check_plan) (C8.fnScope s_check_plan) .none kV_check_plan dc_check_plan pm_check_plan an_check_plan cd_check_plan ct_check_plan), sl_check_plan⟩)
    (c_check_plan : PySem.W.codeIn K cd_check_plan "check_plan" = true)
    (k_check_plan : PySem.W.keepIn K (.ref f_check_plan) = true)
    (a_run_plan : PySem.W.nsIn K mainGlobals "run_plan" = some (some (.ref f_run_plan)))
    (l_run_plan : K.lookup f_run_plan = some ⟨oc_run_plan, od_run_plan, .func (PySem.W.fnOf "run_plan" "run_plan" (C8.fnArgs s_run_plan) (C8.fnBody s_run_plan) (C8.fnScope s_run_plan) .none kV_run_plan dc_run_plan pm_run_plan an_run_plan cd_run_plan ct_run_plan), sl_run_plan⟩)
    (c_run_plan : PySem.W.codeIn K cd_run_plan "run_plan" = true)
    (k_run_plan : PySem.W.keepIn K (.ref f_run_plan) = true)
    (a_check_window : PySem.W.nsIn K mainGlobals "check_window" = some (some (.ref f_check_window)))
    (l_check_window : K.lookup f_check_window = some ⟨oc_check_window, od_check_window, .func (PySem.W.fnOf "check_window" "check_window" (C8.fnArgs s_check_window) (C8.fnBody s_check_window) (C8.fnScope s_check_window) .none kV_check_window dc_check_window pm_check_window an_check_window cd_check_window ct_check_window), sl_check_window⟩)
    (c_check_window : PySem.W.codeIn K cd_check_window "check_window" = true)
    (k_check_window : PySem.W.keepIn K (.ref f_check_window) = true)
    (a_first_bite : PySem.W.nsIn K mainGlobals "first_bite" = some (some (.ref f_first_bite)))
    (l_first_bite : K.lookup f_first_bite = some ⟨oc_first_bite, od_first_bite, .func (PySem.W.fnOf "first_bite" "first_bite" (C8.fnArgs s_first_bite) (C8.fnBody s_first_bite) (C8.fnScope s_first_bite) .none kV_first_bite dc_first_bite pm_first_bite an_first_bite cd_first_bite ct_first_bite), sl_first_bite⟩)
    (c_first_bite : PySem.W.codeIn K cd_first_bite "first_bite" = true)
    (k_first_bite : PySem.W.keepIn K (.ref f_first_bite) = true)
    (a_holds : PySem.W.nsIn K mainGlobals "holds" = some (some (.ref f_holds)))
    (l_holds : K.lookup f_holds = some ⟨oc_holds, od_holds, .func (PySem.W.fnOf "holds" "holds" (C8.fnArgs s_holds) (C8.fnBody s_holds) (C8.fnScope s_holds) .none kV_holds dc_holds pm_holds an_holds cd_holds ct_holds), sl_holds⟩)
    (c_holds : PySem.W.codeIn K cd_holds "holds" = true)
    (k_holds : PySem.W.keepIn K (.ref f_holds) = true)
    (a_spread : PySem.W.nsIn K mainGlobals "spread" = some (some (.ref f_spread)))
    (l_spread : K.lookup f_spread = some ⟨oc_spread, od_spread, .func (PySem.W.fnOf "spread" "spread" (C8.fnArgs s_spread) (C8.fnBody s_spread) (C8.fnScope s_spread) .none kV_spread dc_spread pm_spread an_spread cd_spread ct_spread), sl_spread⟩)
    (c_spread : PySem.W.codeIn K cd_spread "spread" = true)
    (k_spread : PySem.W.keepIn K (.ref f_spread) = true)
    (a_way_to : PySem.W.nsIn K mainGlobals "way_to" = some (some (.ref f_way_to)))
    (l_way_to : K.lookup f_way_to = some ⟨oc_way_to, od_way_to, .func (PySem.W.fnOf "way_to" "way_to" (C8.fnArgs s_way_to) (C8.fnBody s_way_to) (C8.fnScope s_way_to) .none kV_way_to dc_way_to pm_way_to an_way_to cd_way_to ct_way_to), sl_way_to⟩)
    (c_way_to : PySem.W.codeIn K cd_way_to "way_to" = true)
    (k_way_to : PySem.W.keepIn K (.ref f_way_to) = true)
    (a_goals_of_rounds : PySem.W.nsIn K mainGlobals "goals_of_rounds" = some (some (.ref f_goals_of_rounds)))
    (l_goals_of_rounds : K.lookup f_goals_of_rounds = some ⟨oc_goals_of_rounds, od_goals_of_rounds, .func (PySem.W.fnOf "goals_of_rounds" "goals_of_rounds" (C8.fnArgs s_goals_of_rounds) (C8.fnBody s_goals_of_rounds) (C8.fnScope s_goals_of_rounds) .none kV_goals_of_rounds dc_goals_of_rounds pm_goals_of_rounds an_goals_of_rounds cd_goals_of_rounds ct_goals_of_rounds), sl_goals_of_rounds⟩)
    (c_goals_of_rounds : PySem.W.codeIn K cd_goals_of_rounds "goals_of_rounds" = true)
    (k_goals_of_rounds : PySem.W.keepIn K (.ref f_goals_of_rounds) = true)
    (a_delays_of_rounds : PySem.W.nsIn K mainGlobals "delays_of_rounds" = some (some (.ref f_delays_of_rounds)))
    (l_delays_of_rounds : K.lookup f_delays_of_rounds = some ⟨oc_delays_of_rounds, od_delays_of_rounds, .func (PySem.W.fnOf "delays_of_rounds" "delays_of_rounds" (C8.fnArgs s_delays_of_rounds) (C8.fnBody s_delays_of_rounds) (C8.fnScope s_delays_of_rounds) .none kV_delays_of_rounds dc_delays_of_rounds pm_delays_of_rounds an_delays_of_rounds cd_delays_of_rounds ct_delays_of_rounds), sl_delays_of_rounds⟩)
    (c_delays_of_rounds : PySem.W.codeIn K cd_delays_of_rounds "delays_of_rounds" = true)
    (k_delays_of_rounds : PySem.W.keepIn K (.ref f_delays_of_rounds) = true)
    (a_bite_of_rounds : PySem.W.nsIn K mainGlobals "bite_of_rounds" = some (some (.ref f_bite_of_rounds)))
    (l_bite_of_rounds : K.lookup f_bite_of_rounds = some ⟨oc_bite_of_rounds, od_bite_of_rounds, .func (PySem.W.fnOf "bite_of_rounds" "bite_of_rounds" (C8.fnArgs s_bite_of_rounds) (C8.fnBody s_bite_of_rounds) (C8.fnScope s_bite_of_rounds) .none kV_bite_of_rounds dc_bite_of_rounds pm_bite_of_rounds an_bite_of_rounds cd_bite_of_rounds ct_bite_of_rounds), sl_bite_of_rounds⟩)
    (c_bite_of_rounds : PySem.W.codeIn K cd_bite_of_rounds "bite_of_rounds" = true)
    (k_bite_of_rounds : PySem.W.keepIn K (.ref f_bite_of_rounds) = true)
    (a_judged : PySem.W.nsIn K mainGlobals "judged" = some (some (.ref f_judged)))
    (l_judged : K.lookup f_judged = some ⟨oc_judged, od_judged, .func (PySem.W.fnOf "judged" "judged" (C8.fnArgs s_judged) (C8.fnBody s_judged) (C8.fnScope s_judged) .none kV_judged dc_judged pm_judged an_judged cd_judged ct_judged), sl_judged⟩)
    (c_judged : PySem.W.codeIn K cd_judged "judged" = true)
    (k_judged : PySem.W.keepIn K (.ref f_judged) = true)
    (a_law_start : PySem.W.nsIn K mainGlobals "_law_start" = some (some (.ref f_law_start)))
    (l_law_start : K.lookup f_law_start = some ⟨oc_law_start, od_law_start, .func (PySem.W.fnOf "_law_start" "_law_start" (C8.fnArgs s_law_start) (C8.fnBody s_law_start) (C8.fnScope s_law_start) .none kV_law_start dc_law_start pm_law_start an_law_start cd_law_start ct_law_start), sl_law_start⟩)
    (c_law_start : PySem.W.codeIn K cd_law_start "_law_start" = true)
    (k_law_start : PySem.W.keepIn K (.ref f_law_start) = true)
    (a_law_drawn : PySem.W.nsIn K mainGlobals "_law_drawn" = some (some (.ref f_law_drawn)))
    (l_law_drawn : K.lookup f_law_drawn = some ⟨oc_law_drawn, od_law_drawn, .func (PySem.W.fnOf "_law_drawn" "_law_drawn" (C8.fnArgs s_law_drawn) (C8.fnBody s_law_drawn) (C8.fnScope s_law_drawn) .none kV_law_drawn dc_law_drawn pm_law_drawn an_law_drawn cd_law_drawn ct_law_drawn), sl_law_drawn⟩)
    (c_law_drawn : PySem.W.codeIn K cd_law_drawn "_law_drawn" = true)
    (k_law_drawn : PySem.W.keepIn K (.ref f_law_drawn) = true)
    (a_law_kind : PySem.W.nsIn K mainGlobals "_law_kind" = some (some (.ref f_law_kind)))
    (l_law_kind : K.lookup f_law_kind = some ⟨oc_law_kind, od_law_kind, .func (PySem.W.fnOf "_law_kind" "_law_kind" (C8.fnArgs s_law_kind) (C8.fnBody s_law_kind) (C8.fnScope s_law_kind) .none kV_law_kind dc_law_kind pm_law_kind an_law_kind cd_law_kind ct_law_kind), sl_law_kind⟩)
    (c_law_kind : PySem.W.codeIn K cd_law_kind "_law_kind" = true)
    (k_law_kind : PySem.W.keepIn K (.ref f_law_kind) = true)
    (a_law_plan : PySem.W.nsIn K mainGlobals "_law_plan" = some (some (.ref f_law_plan)))
    (l_law_plan : K.lookup f_law_plan = some ⟨oc_law_plan, od_law_plan, .func (PySem.W.fnOf "_law_plan" "_law_plan" (C8.fnArgs s_law_plan) (C8.fnBody s_law_plan) (C8.fnScope s_law_plan) .none kV_law_plan dc_law_plan pm_law_plan an_law_plan cd_law_plan ct_law_plan), sl_law_plan⟩)
    (c_law_plan : PySem.W.codeIn K cd_law_plan "_law_plan" = true)
    (k_law_plan : PySem.W.keepIn K (.ref f_law_plan) = true)
    (a_law_turned : PySem.W.nsIn K mainGlobals "_law_turned" = some (some (.ref f_law_turned)))
    (l_law_turned : K.lookup f_law_turned = some ⟨oc_law_turned, od_law_turned, .func (PySem.W.fnOf "_law_turned" "_law_turned" (C8.fnArgs s_law_turned) (C8.fnBody s_law_turned) (C8.fnScope s_law_turned) .none kV_law_turned dc_law_turned pm_law_turned an_law_turned cd_law_turned ct_law_turned), sl_law_turned⟩)
    (c_law_turned : PySem.W.codeIn K cd_law_turned "_law_turned" = true)
    (k_law_turned : PySem.W.keepIn K (.ref f_law_turned) = true)
    (a_law_looks : PySem.W.nsIn K mainGlobals "_law_looks" = some (some (.ref f_law_looks)))
    (l_law_looks : K.lookup f_law_looks = some ⟨oc_law_looks, od_law_looks, .func (PySem.W.fnOf "_law_looks" "_law_looks" (C8.fnArgs s_law_looks) (C8.fnBody s_law_looks) (C8.fnScope s_law_looks) .none kV_law_looks dc_law_looks pm_law_looks an_law_looks cd_law_looks ct_law_looks), sl_law_looks⟩)
    (c_law_looks : PySem.W.codeIn K cd_law_looks "_law_looks" = true)
    (k_law_looks : PySem.W.keepIn K (.ref f_law_looks) = true)
    (a_law : PySem.W.nsIn K mainGlobals "law" = some (some (.ref fa0)))
    (l_law : K.lookup fa0 = some ⟨oc_law, od_law, .func (PySem.W.fnOf "law" "law" (C8.fnArgs s_law) (C8.fnBody s_law) (C8.fnScope s_law) .none kV_law dc_law pm_law an_law (.ref cc) ct_law), sl_law⟩)
    (c_law : PySem.W.codeIn K (.ref cc) "law" = true)
    (k_law : PySem.W.keepIn K (.ref fa0) = true)
    (aC_Run : PySem.W.nsIn K mainGlobals "Run" = some (some (.ref C_Run)))
    (a_Run_init : PySem.W.findIn K (.ref C_Run) "__init__" = some (some (.ref f_Run_init)))
    (i_Run_init : PySem.W.isFn K (.ref f_Run_init) = true)
    (l_Run_init : K.lookup f_Run_init = some ⟨oc_Run_init, od_Run_init, .func (PySem.W.fnOf "__init__" "Run.__init__" (C8.fnArgs s_Run_init) (C8.fnBody s_Run_init) (C8.fnScope s_Run_init) .none kV_Run_init dc_Run_init pm_Run_init an_Run_init cd_Run_init ct_Run_init), sl_Run_init⟩)
    (c_Run_init : PySem.W.codeIn K cd_Run_init "Run.__init__" = true)
    (k_Run_init : PySem.W.keepIn K (.ref f_Run_init) = true)
    (a_Run_take : PySem.W.findIn K (.ref C_Run) "take" = some (some (.ref f_Run_take)))
    (i_Run_take : PySem.W.isFn K (.ref f_Run_take) = true)
    (l_Run_take : K.lookup f_Run_take = some ⟨oc_Run_take, od_Run_take, .func (PySem.W.fnOf "take" "Run.take" (C8.fnArgs s_Run_take) (C8.fnBody s_Run_take) (C8.fnScope s_Run_take) .none kV_Run_take dc_Run_take pm_Run_take an_Run_take cd_Run_take ct_Run_take), sl_Run_take⟩)
    (c_Run_take : PySem.W.codeIn K cd_Run_take "Run.take" = true)
    (k_Run_take : PySem.W.keepIn K (.ref f_Run_take) = true)
    (a_Run_follow : PySem.W.findIn K (.ref C_Run) "follow" = some (some (.ref f_Run_follow)))
    (i_Run_follow : PySem.W.isFn K (.ref f_Run_follow) = true)
    (l_Run_follow : K.lookup f_Run_follow = some ⟨oc_Run_follow, od_Run_follow, .func (PySem.W.fnOf "follow" "Run.follow" (C8.fnArgs s_Run_follow) (C8.fnBody s_Run_follow) (C8.fnScope s_Run_follow) .none kV_Run_follow dc_Run_follow pm_Run_follow an_Run_follow cd_Run_follow ct_Run_follow), sl_Run_follow⟩)
    (c_Run_follow : PySem.W.codeIn K cd_Run_follow "Run.follow" = true)
    (k_Run_follow : PySem.W.keepIn K (.ref f_Run_follow) = true)
    (pg_Run : PySem.W.plainGet K C_Run Str.empty = true)
    (hdd_Run : PySem.W.hasDictIn K C_Run = true)
    (po_Run : PySem.W.plainOver K C_Run = true)
    (sa_Run : PySem.W.findIn K (.ref C_Run) "__setattr__" = some (some (.builtin "object.__setattr__")))
    (mk_Run : PySem.W.makesIn K C_Run = true)
    (kc_Run : PySem.W.keepIn K (.ref C_Run) = true)
    (n_Run_delays : PySem.W.findIn K (.ref C_Run) "delays" = some none)
    (n_Run_used : PySem.W.findIn K (.ref C_Run) "used" = some none)
    (n_Run_now : PySem.W.findIn K (.ref C_Run) "now" = some none)
    (n_Run_pats : PySem.W.findIn K (.ref C_Run) "pats" = some none)
    (aC_Watcher : PySem.W.nsIn K mainGlobals "Watcher" = some (some (.ref C_Watcher)))
    (a_Watcher_init : PySem.W.findIn K (.ref C_Watcher) "__init__" = some (some (.ref f_Watcher_init)))
    (i_Watcher_init : PySem.W.isFn K (.ref f_Watcher_init) = true)
    (l_Watcher_init : K.lookup f_Watcher_init = some ⟨oc_Watcher_init, od_Watcher_init, .func (PySem.W.fnOf "__init__" "Watcher.__init__" (C8.fnArgs s_Watcher_init) (C8.fnBody s_Watcher_init) (C8.fnScope s_Watcher_init) .none kV_Watcher_init dc_Watcher_init pm_Watcher_init an_Watcher_init cd_Watcher_init ct_Watcher_init), sl_Watcher_init⟩)
    (c_Watcher_init : PySem.W.codeIn K cd_Watcher_init "Watcher.__init__" = true)
    (k_Watcher_init : PySem.W.keepIn K (.ref f_Watcher_init) = true)
    (a_Watcher_gap_behind_pat : PySem.W.findIn K (.ref C_Watcher) "gap_behind_pat" = some (some (.ref f_Watcher_gap_behind_pat)))
    (i_Watcher_gap_behind_pat : PySem.W.isFn K (.ref f_Watcher_gap_behind_pat) = true)
    (l_Watcher_gap_behind_pat : K.lookup f_Watcher_gap_behind_pat = some ⟨oc_Watcher_gap_behind_pat, od_Watcher_gap_behind_pat, .func (PySem.W.fnOf "gap_behind_pat" "Watcher.gap_behind_pat" (C8.fnArgs s_Watcher_gap_behind_pat) (C8.fnBody s_Watcher_gap_behind_pat) (C8.fnScope s_Watcher_gap_behind_pat) .none kV_Watcher_gap_behind_pat dc_Watcher_gap_behind_pat pm_Watcher_gap_behind_pat an_Watcher_gap_behind_pat cd_Watcher_gap_behind_pat ct_Watcher_gap_behind_pat), sl_Watcher_gap_behind_pat⟩)
    (c_Watcher_gap_behind_pat : PySem.W.codeIn K cd_Watcher_gap_behind_pat "Watcher.gap_behind_pat" = true)
    (k_Watcher_gap_behind_pat : PySem.W.keepIn K (.ref f_Watcher_gap_behind_pat) = true)
    (a_Watcher_gap_behind_work : PySem.W.findIn K (.ref C_Watcher) "gap_behind_work" = some (some (.ref f_Watcher_gap_behind_work)))
    (i_Watcher_gap_behind_work : PySem.W.isFn K (.ref f_Watcher_gap_behind_work) = true)
    (l_Watcher_gap_behind_work : K.lookup f_Watcher_gap_behind_work = some ⟨oc_Watcher_gap_behind_work, od_Watcher_gap_behind_work, .func (PySem.W.fnOf "gap_behind_work" "Watcher.gap_behind_work" (C8.fnArgs s_Watcher_gap_behind_work) (C8.fnBody s_Watcher_gap_behind_work) (C8.fnScope s_Watcher_gap_behind_work) .none kV_Watcher_gap_behind_work dc_Watcher_gap_behind_work pm_Watcher_gap_behind_work an_Watcher_gap_behind_work cd_Watcher_gap_behind_work ct_Watcher_gap_behind_work), sl_Watcher_gap_behind_work⟩)
    (c_Watcher_gap_behind_work : PySem.W.codeIn K cd_Watcher_gap_behind_work "Watcher.gap_behind_work" = true)
    (k_Watcher_gap_behind_work : PySem.W.keepIn K (.ref f_Watcher_gap_behind_work) = true)
    (a_Watcher_gaps_ahead_of_pat : PySem.W.findIn K (.ref C_Watcher) "gaps_ahead_of_pat" = some (some (.ref f_Watcher_gaps_ahead_of_pat)))
    (i_Watcher_gaps_ahead_of_pat : PySem.W.isFn K (.ref f_Watcher_gaps_ahead_of_pat) = true)
    (l_Watcher_gaps_ahead_of_pat : K.lookup f_Watcher_gaps_ahead_of_pat = some ⟨oc_Watcher_gaps_ahead_of_pat, od_Watcher_gaps_ahead_of_pat, .func (PySem.W.fnOf "gaps_ahead_of_pat" "Watcher.gaps_ahead_of_pat" (C8.fnArgs s_Watcher_gaps_ahead_of_pat) (C8.fnBody s_Watcher_gaps_ahead_of_pat) (C8.fnScope s_Watcher_gaps_ahead_of_pat) .none kV_Watcher_gaps_ahead_of_pat dc_Watcher_gaps_ahead_of_pat pm_Watcher_gaps_ahead_of_pat an_Watcher_gaps_ahead_of_pat cd_Watcher_gaps_ahead_of_pat ct_Watcher_gaps_ahead_of_pat), sl_Watcher_gaps_ahead_of_pat⟩)
    (c_Watcher_gaps_ahead_of_pat : PySem.W.codeIn K cd_Watcher_gaps_ahead_of_pat "Watcher.gaps_ahead_of_pat" = true)
    (k_Watcher_gaps_ahead_of_pat : PySem.W.keepIn K (.ref f_Watcher_gaps_ahead_of_pat) = true)
    (a_Watcher_gaps_ahead_of_work : PySem.W.findIn K (.ref C_Watcher) "gaps_ahead_of_work" = some (some (.ref f_Watcher_gaps_ahead_of_work)))
    (i_Watcher_gaps_ahead_of_work : PySem.W.isFn K (.ref f_Watcher_gaps_ahead_of_work) = true)
    (l_Watcher_gaps_ahead_of_work : K.lookup f_Watcher_gaps_ahead_of_work = some ⟨oc_Watcher_gaps_ahead_of_work, od_Watcher_gaps_ahead_of_work, .func (PySem.W.fnOf "gaps_ahead_of_work" "Watcher.gaps_ahead_of_work" (C8.fnArgs s_Watcher_gaps_ahead_of_work) (C8.fnBody s_Watcher_gaps_ahead_of_work) (C8.fnScope s_Watcher_gaps_ahead_of_work) .none kV_Watcher_gaps_ahead_of_work dc_Watcher_gaps_ahead_of_work pm_Watcher_gaps_ahead_of_work an_Watcher_gaps_ahead_of_work cd_Watcher_gaps_ahead_of_work ct_Watcher_gaps_ahead_of_work), sl_Watcher_gaps_ahead_of_work⟩)
    (c_Watcher_gaps_ahead_of_work : PySem.W.codeIn K cd_Watcher_gaps_ahead_of_work "Watcher.gaps_ahead_of_work" = true)
    (k_Watcher_gaps_ahead_of_work : PySem.W.keepIn K (.ref f_Watcher_gaps_ahead_of_work) = true)
    (pg_Watcher : PySem.W.plainGet K C_Watcher Str.empty = true)
    (hdd_Watcher : PySem.W.hasDictIn K C_Watcher = true)
    (po_Watcher : PySem.W.plainOver K C_Watcher = true)
    (sa_Watcher : PySem.W.findIn K (.ref C_Watcher) "__setattr__" = some (some (.builtin "object.__setattr__")))
    (mk_Watcher : PySem.W.makesIn K C_Watcher = true)
    (kc_Watcher : PySem.W.keepIn K (.ref C_Watcher) = true)
    (n_Watcher_low : PySem.W.findIn K (.ref C_Watcher) "low" = some none)
    (n_Watcher_high : PySem.W.findIn K (.ref C_Watcher) "high" = some none)
    (n_Watcher_bitten : PySem.W.findIn K (.ref C_Watcher) "bitten" = some none)
    (n_Watcher_bite : PySem.W.findIn K (.ref C_Watcher) "bite" = some none)
    (n_Watcher_too_soon : PySem.W.findIn K (.ref C_Watcher) "too_soon" = some none)
    (n_Watcher_timely : PySem.W.findIn K (.ref C_Watcher) "timely" = some none)
    (aC_PatWay : PySem.W.nsIn K mainGlobals "PatWay" = some (some (.ref C_PatWay)))
    (a_PatWay_init : PySem.W.findIn K (.ref C_PatWay) "__init__" = some (some (.ref f_PatWay_init)))
    (i_PatWay_init : PySem.W.isFn K (.ref f_PatWay_init) = true)
    (l_PatWay_init : K.lookup f_PatWay_init = some ⟨oc_PatWay_init, od_PatWay_init, .func (PySem.W.fnOf "__init__" "PatWay.__init__" (C8.fnArgs s_PatWay_init) (C8.fnBody s_PatWay_init) (C8.fnScope s_PatWay_init) .none kV_PatWay_init dc_PatWay_init pm_PatWay_init an_PatWay_init cd_PatWay_init ct_PatWay_init), sl_PatWay_init⟩)
    (c_PatWay_init : PySem.W.codeIn K cd_PatWay_init "PatWay.__init__" = true)
    (k_PatWay_init : PySem.W.keepIn K (.ref f_PatWay_init) = true)
    (a_PatWay_lead : PySem.W.findIn K (.ref C_PatWay) "lead" = some (some (.ref f_PatWay_lead)))
    (i_PatWay_lead : PySem.W.isFn K (.ref f_PatWay_lead) = true)
    (l_PatWay_lead : K.lookup f_PatWay_lead = some ⟨oc_PatWay_lead, od_PatWay_lead, .func (PySem.W.fnOf "lead" "PatWay.lead" (C8.fnArgs s_PatWay_lead) (C8.fnBody s_PatWay_lead) (C8.fnScope s_PatWay_lead) .none kV_PatWay_lead dc_PatWay_lead pm_PatWay_lead an_PatWay_lead cd_PatWay_lead ct_PatWay_lead), sl_PatWay_lead⟩)
    (c_PatWay_lead : PySem.W.codeIn K cd_PatWay_lead "PatWay.lead" = true)
    (k_PatWay_lead : PySem.W.keepIn K (.ref f_PatWay_lead) = true)
    (pg_PatWay : PySem.W.plainGet K C_PatWay Str.empty = true)
    (hdd_PatWay : PySem.W.hasDictIn K C_PatWay = true)
    (po_PatWay : PySem.W.plainOver K C_PatWay = true)
    (sa_PatWay : PySem.W.findIn K (.ref C_PatWay) "__setattr__" = some (some (.builtin "object.__setattr__")))
    (mk_PatWay : PySem.W.makesIn K C_PatWay = true)
    (kc_PatWay : PySem.W.keepIn K (.ref C_PatWay) = true)
    (n_PatWay_watcher : PySem.W.findIn K (.ref C_PatWay) "watcher" = some none)
    (n_PatWay_gaps : PySem.W.findIn K (.ref C_PatWay) "gaps" = some none)
    (aC_WorkWay : PySem.W.nsIn K mainGlobals "WorkWay" = some (some (.ref C_WorkWay)))
    (a_WorkWay_init : PySem.W.findIn K (.ref C_WorkWay) "__init__" = some (some (.ref f_WorkWay_init)))
    (i_WorkWay_init : PySem.W.isFn K (.ref f_WorkWay_init) = true)
    (l_WorkWay_init : K.lookup f_WorkWay_init = some ⟨oc_WorkWay_init, od_WorkWay_init, .func (PySem.W.fnOf "__init__" "WorkWay.__init__" (C8.fnArgs s_WorkWay_init) (C8.fnBody s_WorkWay_init) (C8.fnScope s_WorkWay_init) .none kV_WorkWay_init dc_WorkWay_init pm_WorkWay_init an_WorkWay_init cd_WorkWay_init ct_WorkWay_init), sl_WorkWay_init⟩)
    (c_WorkWay_init : PySem.W.codeIn K cd_WorkWay_init "WorkWay.__init__" = true)
    (k_WorkWay_init : PySem.W.keepIn K (.ref f_WorkWay_init) = true)
    (a_WorkWay_lead : PySem.W.findIn K (.ref C_WorkWay) "lead" = some (some (.ref f_WorkWay_lead)))
    (i_WorkWay_lead : PySem.W.isFn K (.ref f_WorkWay_lead) = true)
    (l_WorkWay_lead : K.lookup f_WorkWay_lead = some ⟨oc_WorkWay_lead, od_WorkWay_lead, .func (PySem.W.fnOf "lead" "WorkWay.lead" (C8.fnArgs s_WorkWay_lead) (C8.fnBody s_WorkWay_lead) (C8.fnScope s_WorkWay_lead) .none kV_WorkWay_lead dc_WorkWay_lead pm_WorkWay_lead an_WorkWay_lead cd_WorkWay_lead ct_WorkWay_lead), sl_WorkWay_lead⟩)
    (c_WorkWay_lead : PySem.W.codeIn K cd_WorkWay_lead "WorkWay.lead" = true)
    (k_WorkWay_lead : PySem.W.keepIn K (.ref f_WorkWay_lead) = true)
    (pg_WorkWay : PySem.W.plainGet K C_WorkWay Str.empty = true)
    (hdd_WorkWay : PySem.W.hasDictIn K C_WorkWay = true)
    (po_WorkWay : PySem.W.plainOver K C_WorkWay = true)
    (sa_WorkWay : PySem.W.findIn K (.ref C_WorkWay) "__setattr__" = some (some (.builtin "object.__setattr__")))
    (mk_WorkWay : PySem.W.makesIn K C_WorkWay = true)
    (kc_WorkWay : PySem.W.keepIn K (.ref C_WorkWay) = true)
    (n_WorkWay_watcher : PySem.W.findIn K (.ref C_WorkWay) "watcher" = some none)
    (n_WorkWay_goal : PySem.W.findIn K (.ref C_WorkWay) "goal" = some none)
    (n_WorkWay_least : PySem.W.findIn K (.ref C_WorkWay) "least" = some none)
    (n_WorkWay_gaps : PySem.W.findIn K (.ref C_WorkWay) "gaps" = some none)
    (aC_RowWay : PySem.W.nsIn K mainGlobals "RowWay" = some (some (.ref C_RowWay)))
    (a_RowWay_init : PySem.W.findIn K (.ref C_RowWay) "__init__" = some (some (.ref f_RowWay_init)))
    (i_RowWay_init : PySem.W.isFn K (.ref f_RowWay_init) = true)
    (l_RowWay_init : K.lookup f_RowWay_init = some ⟨oc_RowWay_init, od_RowWay_init, .func (PySem.W.fnOf "__init__" "RowWay.__init__" (C8.fnArgs s_RowWay_init) (C8.fnBody s_RowWay_init) (C8.fnScope s_RowWay_init) .none kV_RowWay_init dc_RowWay_init pm_RowWay_init an_RowWay_init cd_RowWay_init ct_RowWay_init), sl_RowWay_init⟩)
    (c_RowWay_init : PySem.W.codeIn K cd_RowWay_init "RowWay.__init__" = true)
    (k_RowWay_init : PySem.W.keepIn K (.ref f_RowWay_init) = true)
    (a_RowWay_lead : PySem.W.findIn K (.ref C_RowWay) "lead" = some (some (.ref f_RowWay_lead)))
    (i_RowWay_lead : PySem.W.isFn K (.ref f_RowWay_lead) = true)
    (l_RowWay_lead : K.lookup f_RowWay_lead = some ⟨oc_RowWay_lead, od_RowWay_lead, .func (PySem.W.fnOf "lead" "RowWay.lead" (C8.fnArgs s_RowWay_lead) (C8.fnBody s_RowWay_lead) (C8.fnScope s_RowWay_lead) .none kV_RowWay_lead dc_RowWay_lead pm_RowWay_lead an_RowWay_lead cd_RowWay_lead ct_RowWay_lead), sl_RowWay_lead⟩)
    (c_RowWay_lead : PySem.W.codeIn K cd_RowWay_lead "RowWay.lead" = true)
    (k_RowWay_lead : PySem.W.keepIn K (.ref f_RowWay_lead) = true)
    (pg_RowWay : PySem.W.plainGet K C_RowWay Str.empty = true)
    (hdd_RowWay : PySem.W.hasDictIn K C_RowWay = true)
    (po_RowWay : PySem.W.plainOver K C_RowWay = true)
    (sa_RowWay : PySem.W.findIn K (.ref C_RowWay) "__setattr__" = some (some (.builtin "object.__setattr__")))
    (mk_RowWay : PySem.W.makesIn K C_RowWay = true)
    (kc_RowWay : PySem.W.keepIn K (.ref C_RowWay) = true)
    (n_RowWay_ways : PySem.W.findIn K (.ref C_RowWay) "ways" = some none)
    (n_RowWay_gaps : PySem.W.findIn K (.ref C_RowWay) "gaps" = some none)
    (aC_EitherWay : PySem.W.nsIn K mainGlobals "EitherWay" = some (some (.ref C_EitherWay)))
    (a_EitherWay_init : PySem.W.findIn K (.ref C_EitherWay) "__init__" = some (some (.ref f_EitherWay_init)))
    (i_EitherWay_init : PySem.W.isFn K (.ref f_EitherWay_init) = true)
    (l_EitherWay_init : K.lookup f_EitherWay_init = some ⟨oc_EitherWay_init, od_EitherWay_init, .func (PySem.W.fnOf "__init__" "EitherWay.__init__" (C8.fnArgs s_EitherWay_init) (C8.fnBody s_EitherWay_init) (C8.fnScope s_EitherWay_init) .none kV_EitherWay_init dc_EitherWay_init pm_EitherWay_init an_EitherWay_init cd_EitherWay_init ct_EitherWay_init), sl_EitherWay_init⟩)
    (c_EitherWay_init : PySem.W.codeIn K cd_EitherWay_init "EitherWay.__init__" = true)
    (k_EitherWay_init : PySem.W.keepIn K (.ref f_EitherWay_init) = true)
    (a_EitherWay_lead : PySem.W.findIn K (.ref C_EitherWay) "lead" = some (some (.ref f_EitherWay_lead)))
    (i_EitherWay_lead : PySem.W.isFn K (.ref f_EitherWay_lead) = true)
    (l_EitherWay_lead : K.lookup f_EitherWay_lead = some ⟨oc_EitherWay_lead, od_EitherWay_lead, .func (PySem.W.fnOf "lead" "EitherWay.lead" (C8.fnArgs s_EitherWay_lead) (C8.fnBody s_EitherWay_lead) (C8.fnScope s_EitherWay_lead) .none kV_EitherWay_lead dc_EitherWay_lead pm_EitherWay_lead an_EitherWay_lead cd_EitherWay_lead ct_EitherWay_lead), sl_EitherWay_lead⟩)
    (c_EitherWay_lead : PySem.W.codeIn K cd_EitherWay_lead "EitherWay.lead" = true)
    (k_EitherWay_lead : PySem.W.keepIn K (.ref f_EitherWay_lead) = true)
    (pg_EitherWay : PySem.W.plainGet K C_EitherWay Str.empty = true)
    (hdd_EitherWay : PySem.W.hasDictIn K C_EitherWay = true)
    (po_EitherWay : PySem.W.plainOver K C_EitherWay = true)
    (sa_EitherWay : PySem.W.findIn K (.ref C_EitherWay) "__setattr__" = some (some (.builtin "object.__setattr__")))
    (mk_EitherWay : PySem.W.makesIn K C_EitherWay = true)
    (kc_EitherWay : PySem.W.keepIn K (.ref C_EitherWay) = true)
    (n_EitherWay_ways : PySem.W.findIn K (.ref C_EitherWay) "ways" = some none)
    (n_EitherWay_gaps : PySem.W.findIn K (.ref C_EitherWay) "gaps" = some none)
    (aC_LoopWay : PySem.W.nsIn K mainGlobals "LoopWay" = some (some (.ref C_LoopWay)))
    (a_LoopWay_init : PySem.W.findIn K (.ref C_LoopWay) "__init__" = some (some (.ref f_LoopWay_init)))
    (i_LoopWay_init : PySem.W.isFn K (.ref f_LoopWay_init) = true)
    (l_LoopWay_init : K.lookup f_LoopWay_init = some ⟨oc_LoopWay_init, od_LoopWay_init, .func (PySem.W.fnOf "__init__" "LoopWay.__init__" (C8.fnArgs s_LoopWay_init) (C8.fnBody s_LoopWay_init) (C8.fnScope s_LoopWay_init) .none kV_LoopWay_init dc_LoopWay_init pm_LoopWay_init an_LoopWay_init cd_LoopWay_init ct_LoopWay_init), sl_LoopWay_init⟩)
    (c_LoopWay_init : PySem.W.codeIn K cd_LoopWay_init "LoopWay.__init__" = true)
    (k_LoopWay_init : PySem.W.keepIn K (.ref f_LoopWay_init) = true)
    (a_LoopWay_lead : PySem.W.findIn K (.ref C_LoopWay) "lead" = some (some (.ref f_LoopWay_lead)))
    (i_LoopWay_lead : PySem.W.isFn K (.ref f_LoopWay_lead) = true)
    (l_LoopWay_lead : K.lookup f_LoopWay_lead = some ⟨oc_LoopWay_lead, od_LoopWay_lead, .func (PySem.W.fnOf "lead" "LoopWay.lead" (C8.fnArgs s_LoopWay_lead) (C8.fnBody s_LoopWay_lead) (C8.fnScope s_LoopWay_lead) .none kV_LoopWay_lead dc_LoopWay_lead pm_LoopWay_lead an_LoopWay_lead cd_LoopWay_lead ct_LoopWay_lead), sl_LoopWay_lead⟩)
    (c_LoopWay_lead : PySem.W.codeIn K cd_LoopWay_lead "LoopWay.lead" = true)
    (k_LoopWay_lead : PySem.W.keepIn K (.ref f_LoopWay_lead) = true)
    (pg_LoopWay : PySem.W.plainGet K C_LoopWay Str.empty = true)
    (hdd_LoopWay : PySem.W.hasDictIn K C_LoopWay = true)
    (po_LoopWay : PySem.W.plainOver K C_LoopWay = true)
    (sa_LoopWay : PySem.W.findIn K (.ref C_LoopWay) "__setattr__" = some (some (.builtin "object.__setattr__")))
    (mk_LoopWay : PySem.W.makesIn K C_LoopWay = true)
    (kc_LoopWay : PySem.W.keepIn K (.ref C_LoopWay) = true)
    (n_LoopWay_least : PySem.W.findIn K (.ref C_LoopWay) "least" = some none)
    (n_LoopWay_turns : PySem.W.findIn K (.ref C_LoopWay) "turns" = some none)
    (n_LoopWay_goals : PySem.W.findIn K (.ref C_LoopWay) "goals" = some none)
    (n_LoopWay_gaps : PySem.W.findIn K (.ref C_LoopWay) "gaps" = some none)
    (lc : K.lookup cc = some ⟨occ, odc, .fields vsc, slc⟩)
    (v11 : vsc[11]? = some (.ref Pt))
    (hch : PySem.W.codeHdIn K cc Pt = true)
    (nPt : K.lookup Pt = none)
    (z_isinstance : PySem.W.nsIn K mainGlobals "isinstance" = some none)
    (z_len : PySem.W.nsIn K mainGlobals "len" = some none)
    (z_int : PySem.W.nsIn K mainGlobals "int" = some none)
    (z_bool : PySem.W.nsIn K mainGlobals "bool" = some none)
    (z_range : PySem.W.nsIn K mainGlobals "range" = some none)
    (z_list : PySem.W.nsIn K mainGlobals "list" = some none)
    (z_tuple : PySem.W.nsIn K mainGlobals "tuple" = some none)
    (z_str : PySem.W.nsIn K mainGlobals "str" = some none)
    (z_sum : PySem.W.nsIn K mainGlobals "sum" = some none)
    (z_min : PySem.W.nsIn K mainGlobals "min" = some none)
    (z_reversed : PySem.W.nsIn K mainGlobals "reversed" = some none)
    (z_ValueError : PySem.W.nsIn K mainGlobals "ValueError" = some none)
    (q_LONGEST_WORK : PySem.W.nsIn K mainGlobals "LONGEST_WORK" = some (some (.int 1000 t_LONGEST_WORK)))
    (q_MOST_TIMES : PySem.W.nsIn K mainGlobals "MOST_TIMES" = some (some (.int 9 t_MOST_TIMES)))
    (q_LONGEST_ROW : PySem.W.nsIn K mainGlobals "LONGEST_ROW" = some (some (.int 20 t_LONGEST_ROW)))
    (q_MOST_PLANS : PySem.W.nsIn K mainGlobals "MOST_PLANS" = some (some (.int 30 t_MOST_PLANS)))
    (q_MOST_DEEP : PySem.W.nsIn K mainGlobals "MOST_DEEP" = some (some (.int 6 t_MOST_DEEP)))
    (q_MOST_LOOPS : PySem.W.nsIn K mainGlobals "MOST_LOOPS" = some (some (.int 2 t_MOST_LOOPS)))
    (q_GREATEST_HIGH : PySem.W.nsIn K mainGlobals "GREATEST_HIGH" = some (some (.int 1000 t_GREATEST_HIGH)))
    (aD : PySem.W.nsIn K mainGlobals "DogError" = some (some (.ref CD)))
    (aC0 : PySem.W.nsIn K mainGlobals "BadWindow" = some (some (.ref C_0)))
    (aC1 : PySem.W.nsIn K mainGlobals "BadPlan" = some (some (.ref C_1)))
    (aC2 : PySem.W.nsIn K mainGlobals "BadDelays" = some (some (.ref C_2)))
    (aC3 : PySem.W.nsIn K mainGlobals "BadWorks" = some (some (.ref C_3)))
    (aC4 : PySem.W.nsIn K mainGlobals "NoPats" = some (some (.ref C_4)))
    (aC5 : PySem.W.nsIn K mainGlobals "NoPlace" = some (some (.ref C_5)))
    (aC6 : PySem.W.nsIn K mainGlobals "BadTasks" = some (some (.ref C_6)))
    (aC7 : PySem.W.nsIn K mainGlobals "BadBeat" = some (some (.ref C_7)))
    (aC8 : PySem.W.nsIn K mainGlobals "TooMuch" = some (some (.ref C_8)))
    (bD : PySem.W.subIn K (.ref CD) (.type "BaseException") = some true)
    (hD : PySem.W.hasDictIn K CD = true)
    (tD : PySem.W.typeIn K (.ref CD) = some (.type "type"))
    (xn : PySem.W.specialIn K (.builtin "object.__class__") "__get__" = some (some (.builtin "getset_descriptor.__get__")))
    (xt : PySem.W.takesIn K (.builtin "object.__class__") = some true)
    (x0 : PySem.W.excIn K C_0 [.type "ValueError", .type "Exception", .type "BaseException", .type "object"] "ValueError.__new__" = true)
    (kk0 : PySem.W.keepIn K (.ref C_0) = true)
    (b0 : PySem.W.subIn K (.ref C_0) (.type "BaseException") = some true)
    (t0 : PySem.W.typeIn K (.ref C_0) = some (.type "type"))
    (hg0 : PySem.W.findIn K (.ref C_0) "__getattribute__" = some (some (.builtin "BaseException.__getattribute__")))
    (hk0 : PySem.W.findIn K (.ref C_0) "__getattr__" = some none)
    (hd0 : PySem.W.hasDictIn K C_0 = true)
    (ha0 : PySem.W.findIn K (.ref C_0) "__class__" = some (some (.builtin "object.__class__")))
    (hm0 : PySem.W.mroIn K C_0 (.type "object") = some true)
    (sD0 : PySem.W.subIn K (.ref C_0) (.ref CD) = some true)
    (kv0 : PySem.W.kitOne K (.ref C_0) (.type "ValueError") = some true)
    (ki0_0 : PySem.W.kitOne K (.ref C_0) (.ref C_0) = some true)
    (ki0_1 : PySem.W.kitOne K (.ref C_0) (.ref C_1) = some false)
    (ki0_2 : PySem.W.kitOne K (.ref C_0) (.ref C_2) = some false)
    (ki0_3 : PySem.W.kitOne K (.ref C_0) (.ref C_3) = some false)
    (ki0_4 : PySem.W.kitOne K (.ref C_0) (.ref C_4) = some false)
    (ki0_5 : PySem.W.kitOne K (.ref C_0) (.ref C_5) = some false)
    (ki0_6 : PySem.W.kitOne K (.ref C_0) (.ref C_6) = some false)
    (ki0_7 : PySem.W.kitOne K (.ref C_0) (.ref C_7) = some false)
    (ki0_8 : PySem.W.kitOne K (.ref C_0) (.ref C_8) = some false)
    (x1 : PySem.W.excIn K C_1 [.type "ValueError", .type "Exception", .type "BaseException", .type "object"] "ValueError.__new__" = true)
    (kk1 : PySem.W.keepIn K (.ref C_1) = true)
    (b1 : PySem.W.subIn K (.ref C_1) (.type "BaseException") = some true)
    (t1 : PySem.W.typeIn K (.ref C_1) = some (.type "type"))
    (hg1 : PySem.W.findIn K (.ref C_1) "__getattribute__" = some (some (.builtin "BaseException.__getattribute__")))
    (hk1 : PySem.W.findIn K (.ref C_1) "__getattr__" = some none)
    (hd1 : PySem.W.hasDictIn K C_1 = true)
    (ha1 : PySem.W.findIn K (.ref C_1) "__class__" = some (some (.builtin "object.__class__")))
    (hm1 : PySem.W.mroIn K C_1 (.type "object") = some true)
    (sD1 : PySem.W.subIn K (.ref C_1) (.ref CD) = some true)
    (kv1 : PySem.W.kitOne K (.ref C_1) (.type "ValueError") = some true)
    (ki1_0 : PySem.W.kitOne K (.ref C_1) (.ref C_0) = some false)
    (ki1_1 : PySem.W.kitOne K (.ref C_1) (.ref C_1) = some true)
    (ki1_2 : PySem.W.kitOne K (.ref C_1) (.ref C_2) = some false)
    (ki1_3 : PySem.W.kitOne K (.ref C_1) (.ref C_3) = some false)
    (ki1_4 : PySem.W.kitOne K (.ref C_1) (.ref C_4) = some false)
    (ki1_5 : PySem.W.kitOne K (.ref C_1) (.ref C_5) = some false)
    (ki1_6 : PySem.W.kitOne K (.ref C_1) (.ref C_6) = some false)
    (ki1_7 : PySem.W.kitOne K (.ref C_1) (.ref C_7) = some false)
    (ki1_8 : PySem.W.kitOne K (.ref C_1) (.ref C_8) = some false)
    (xL : K.lookup C_2 = some (excClassObj nm qB C_2 NB bsB [.ref CD, .type "ValueError", .type "Exception", .type "BaseException", .type "object"] true snB subB abB colB ddB m0 m1 m2 m3 m5 "ValueError.__new__"))
    (saB : PySem.W.findIn K (.ref C_2) "__setattr__" = some (some (.builtin "object.__setattr__")))
    (a_BadDelays_init : PySem.W.findIn K (.ref C_2) "__init__" = some (some (.ref f_BadDelays_init)))
    (tI : PySem.W.typeIn K (.ref f_BadDelays_init) = some (.type "function"))
    (l_BadDelays_init : K.lookup f_BadDelays_init = some ⟨oc_BadDelays_init, od_BadDelays_init, .func (PySem.W.fnOf "__init__" "BadDelays.__init__" (C8.fnArgs s_BadDelays_init) (C8.fnBody s_BadDelays_init) (C8.fnScope s_BadDelays_init) .none kV_BadDelays_init dc_BadDelays_init pm_BadDelays_init an_BadDelays_init cd_BadDelays_init ct_BadDelays_init), sl_BadDelays_init⟩)
    (c_BadDelays_init : PySem.W.codeIn K cd_BadDelays_init "BadDelays.__init__" = true)
    (rdD : PySem.W.readsIn K CD (.type "type") = true)
    (gaD : PySem.W.specialIn K (.ref CD) "__getattribute__" = some (some (.builtin "type.__getattribute__")))
    (vVD : PySem.W.findCls K (.ref CD) (.type "type") "__init__" = some (.val (.builtin "ValueError.__init__")))
    (naB : PySem.W.findIn K (.ref C_2) "at" = some none)
    (kkB : PySem.W.keepIn K (.ref C_2) = true)
    (bB : PySem.W.subIn K (.ref C_2) (.type "BaseException") = some true)
    (tB : PySem.W.typeIn K (.ref C_2) = some (.type "type"))
    (hgB : PySem.W.findIn K (.ref C_2) "__getattribute__" = some (some (.builtin "BaseException.__getattribute__")))
    (hkB : PySem.W.findIn K (.ref C_2) "__getattr__" = some none)
    (hdB : PySem.W.hasDictIn K C_2 = true)
    (haB : PySem.W.findIn K (.ref C_2) "__class__" = some (some (.builtin "object.__class__")))
    (hmB : PySem.W.mroIn K C_2 (.type "object") = some true)
    (sDB : PySem.W.subIn K (.ref C_2) (.ref CD) = some true)
    (kvB : PySem.W.kitOne K (.ref C_2) (.type "ValueError") = some true)
    (kiB_0 : PySem.W.kitOne K (.ref C_2) (.ref C_0) = some false)
    (kiB_1 : PySem.W.kitOne K (.ref C_2) (.ref C_1) = some false)
    (kiB_2 : PySem.W.kitOne K (.ref C_2) (.ref C_2) = some true)
    (kiB_3 : PySem.W.kitOne K (.ref C_2) (.ref C_3) = some false)
    (kiB_4 : PySem.W.kitOne K (.ref C_2) (.ref C_4) = some false)
    (kiB_5 : PySem.W.kitOne K (.ref C_2) (.ref C_5) = some false)
    (kiB_6 : PySem.W.kitOne K (.ref C_2) (.ref C_6) = some false)
    (kiB_7 : PySem.W.kitOne K (.ref C_2) (.ref C_7) = some false)
    (kiB_8 : PySem.W.kitOne K (.ref C_2) (.ref C_8) = some false)
    (hT : h.get? Pt = some { cls := .none, data := .fields #[] }) :
    LamX.LawAtS l w K C8.CX0 25 63 "_law_script" mg fa h := by
  have e := hfa.symm.trans (PySem.W.mg_of X G a_law)
  cases e
  have D_is_number : C8.Def K mg "is_number" s_is_number f_is_number _ := ⟨⟨_, _, _, _, _, _, _, _, _, _, rfl, l_is_number, c_is_number⟩, PySem.W.mg_of X G a_is_number, k_is_number⟩
  have B_is_number := C8.Fun.binds (ps := ["value"]) D_is_number.fn rfl fun _ _ _ _ _ _ us hl => match us, hl with | [_], _ => rfl
  have D_is_range : C8.Def K mg "is_range" s_is_range f_is_range _ := ⟨⟨_, _, _, _, _, _, _, _, _, _, rfl, l_is_range, c_is_range⟩, PySem.W.mg_of X G a_is_range, k_is_range⟩
  have B_is_range := C8.Fun.binds (ps := ["least", "most", "limit"]) D_is_range.fn rfl fun _ _ _ _ _ _ us hl => match us, hl with | [_, _, _], _ => rfl
  have D_has_form : C8.Def K mg "has_form" s_has_form f_has_form _ := ⟨⟨_, _, _, _, _, _, _, _, _, _, rfl, l_has_form, c_has_form⟩, PySem.W.mg_of X G a_has_form, k_has_form⟩
  have B_has_form := C8.Fun.binds (ps := ["plan"]) D_has_form.fn rfl fun _ _ _ _ _ _ us hl => match us, hl with | [_], _ => rfl
  have D_plans_in : C8.Def K mg "plans_in" s_plans_in f_plans_in _ := ⟨⟨_, _, _, _, _, _, _, _, _, _, rfl, l_plans_in, c_plans_in⟩, PySem.W.mg_of X G a_plans_in, k_plans_in⟩
  have B_plans_in := C8.Fun.binds (ps := ["plan"]) D_plans_in.fn rfl fun _ _ _ _ _ _ us hl => match us, hl with | [_], _ => rfl
  have D_check_plan : C8.Def K mg "check_plan" s_check_plan f_check_plan _ := ⟨⟨_, _, _, _, _, _, _, _, _, _, rfl, l_check_plan, c_check_plan⟩, PySem.W.mg_of X G a_check_plan, k_check_plan⟩
  have B_check_plan := C8.Fun.binds (ps := ["plan"]) D_check_plan.fn rfl fun _ _ _ _ _ _ us hl => match us, hl with | [_], _ => rfl
  have D_run_plan : C8.Def K mg "run_plan" s_run_plan f_run_plan _ := ⟨⟨_, _, _, _, _, _, _, _, _, _, rfl, l_run_plan, c_run_plan⟩, PySem.W.mg_of X G a_run_plan, k_run_plan⟩
  have B_run_plan := C8.Fun.binds (ps := ["plan", "delays"]) D_run_plan.fn rfl fun _ _ _ _ _ _ us hl => match us, hl with | [_, _], _ => rfl
  have D_check_window : C8.Def K mg "check_window" s_check_window f_check_window _ := ⟨⟨_, _, _, _, _, _, _, _, _, _, rfl, l_check_window, c_check_window⟩, PySem.W.mg_of X G a_check_window, k_check_window⟩
  have B_check_window := C8.Fun.binds (ps := ["window"]) D_check_window.fn rfl fun _ _ _ _ _ _ us hl => match us, hl with | [_], _ => rfl
  have D_first_bite : C8.Def K mg "first_bite" s_first_bite f_first_bite _ := ⟨⟨_, _, _, _, _, _, _, _, _, _, rfl, l_first_bite, c_first_bite⟩, PySem.W.mg_of X G a_first_bite, k_first_bite⟩
  have B_first_bite := C8.Fun.binds (ps := ["window", "pats"]) D_first_bite.fn rfl fun _ _ _ _ _ _ us hl => match us, hl with | [_, _], _ => rfl
  have D_holds : C8.Def K mg "holds" s_holds f_holds _ := ⟨⟨_, _, _, _, _, _, _, _, _, _, rfl, l_holds, c_holds⟩, PySem.W.mg_of X G a_holds, k_holds⟩
  have B_holds := C8.Fun.binds (ps := ["gaps", "gap"]) D_holds.fn rfl fun _ _ _ _ _ _ us hl => match us, hl with | [_, _], _ => rfl
  have D_spread : C8.Def K mg "spread" s_spread f_spread _ := ⟨⟨_, _, _, _, _, _, _, _, _, _, rfl, l_spread, c_spread⟩, PySem.W.mg_of X G a_spread, k_spread⟩
  have B_spread := C8.Fun.binds (ps := ["gaps", "most"]) D_spread.fn rfl fun _ _ _ _ _ _ us hl => match us, hl with | [_, _], _ => rfl
  have D_way_to : C8.Def K mg "way_to" s_way_to f_way_to _ := ⟨⟨_, _, _, _, _, _, _, _, _, _, rfl, l_way_to, c_way_to⟩, PySem.W.mg_of X G a_way_to, k_way_to⟩
  have B_way_to := C8.Fun.binds (ps := ["watcher", "plan", "goal"]) D_way_to.fn rfl fun _ _ _ _ _ _ us hl => match us, hl with | [_, _, _], _ => rfl
  have D_goals_of_rounds : C8.Def K mg "goals_of_rounds" s_goals_of_rounds f_goals_of_rounds _ := ⟨⟨_, _, _, _, _, _, _, _, _, _, rfl, l_goals_of_rounds, c_goals_of_rounds⟩, PySem.W.mg_of X G a_goals_of_rounds, k_goals_of_rounds⟩
  have B_goals_of_rounds := C8.Fun.binds (ps := ["watcher", "plan"]) D_goals_of_rounds.fn rfl fun _ _ _ _ _ _ us hl => match us, hl with | [_, _], _ => rfl
  have D_delays_of_rounds : C8.Def K mg "delays_of_rounds" s_delays_of_rounds f_delays_of_rounds _ := ⟨⟨_, _, _, _, _, _, _, _, _, _, rfl, l_delays_of_rounds, c_delays_of_rounds⟩, PySem.W.mg_of X G a_delays_of_rounds, k_delays_of_rounds⟩
  have B_delays_of_rounds := C8.Fun.binds (ps := ["watcher", "plan", "goals"]) D_delays_of_rounds.fn rfl fun _ _ _ _ _ _ us hl => match us, hl with | [_, _, _], _ => rfl
  have D_bite_of_rounds : C8.Def K mg "bite_of_rounds" s_bite_of_rounds f_bite_of_rounds _ := ⟨⟨_, _, _, _, _, _, _, _, _, _, rfl, l_bite_of_rounds, c_bite_of_rounds⟩, PySem.W.mg_of X G a_bite_of_rounds, k_bite_of_rounds⟩
  have B_bite_of_rounds := C8.Fun.binds (ps := ["window", "plan", "rounds", "delays"]) D_bite_of_rounds.fn rfl fun _ _ _ _ _ _ us hl => match us, hl with | [_, _, _, _], _ => rfl
  have D_judged : C8.Def K mg "judged" s_judged f_judged _ := ⟨⟨_, _, _, _, _, _, _, _, _, _, rfl, l_judged, c_judged⟩, PySem.W.mg_of X G a_judged, k_judged⟩
  have B_judged := C8.Fun.binds (ps := ["window", "plan"]) D_judged.fn rfl fun _ _ _ _ _ _ us hl => match us, hl with | [_, _], _ => rfl
  have D_law_start : C8.Def K mg "_law_start" s_law_start f_law_start _ := ⟨⟨_, _, _, _, _, _, _, _, _, _, rfl, l_law_start, c_law_start⟩, PySem.W.mg_of X G a_law_start, k_law_start⟩
  have B_law_start := C8.Fun.binds (ps := ["_law_script"]) D_law_start.fn rfl fun _ _ _ _ _ _ us hl => match us, hl with | [_], _ => rfl
  have D_law_drawn : C8.Def K mg "_law_drawn" s_law_drawn f_law_drawn _ := ⟨⟨_, _, _, _, _, _, _, _, _, _, rfl, l_law_drawn, c_law_drawn⟩, PySem.W.mg_of X G a_law_drawn, k_law_drawn⟩
  have B_law_drawn := C8.Fun.binds (ps := ["_law_state", "_law_many"]) D_law_drawn.fn rfl fun _ _ _ _ _ _ us hl => match us, hl with | [_, _], _ => rfl
  have D_law_kind : C8.Def K mg "_law_kind" s_law_kind f_law_kind _ := ⟨⟨_, _, _, _, _, _, _, _, _, _, rfl, l_law_kind, c_law_kind⟩, PySem.W.mg_of X G a_law_kind, k_law_kind⟩
  have B_law_kind := C8.Fun.binds (ps := ["_law_work"]) D_law_kind.fn rfl fun _ _ _ _ _ _ us hl => match us, hl with | [_], _ => rfl
  have D_law_plan : C8.Def K mg "_law_plan" s_law_plan f_law_plan _ := ⟨⟨_, _, _, _, _, _, _, _, _, _, rfl, l_law_plan, c_law_plan⟩, PySem.W.mg_of X G a_law_plan, k_law_plan⟩
  have B_law_plan := C8.Fun.binds (ps := ["_law_state", "_law_deep", "_law_loops"]) D_law_plan.fn rfl fun _ _ _ _ _ _ us hl => match us, hl with | [_, _, _], _ => rfl
  have D_law_turned : C8.Def K mg "_law_turned" s_law_turned f_law_turned _ := ⟨⟨_, _, _, _, _, _, _, _, _, _, rfl, l_law_turned, c_law_turned⟩, PySem.W.mg_of X G a_law_turned, k_law_turned⟩
  have B_law_turned := C8.Fun.binds (ps := ["_law_state", "_law_plan_here"]) D_law_turned.fn rfl fun _ _ _ _ _ _ us hl => match us, hl with | [_, _], _ => rfl
  have D_law_looks : C8.Def K mg "_law_looks" s_law_looks f_law_looks _ := ⟨⟨_, _, _, _, _, _, _, _, _, _, rfl, l_law_looks, c_law_looks⟩, PySem.W.mg_of X G a_law_looks, k_law_looks⟩
  have B_law_looks := C8.Fun.binds (ps := ["_law_plan_here", "_law_deep", "_law_loops"]) D_law_looks.fn rfl fun _ _ _ _ _ _ us hl => match us, hl with | [_, _, _], _ => rfl
  have F_Run_init : C8.Fun K "__init__" "Run.__init__" s_Run_init f_Run_init _ := ⟨_, _, _, _, _, _, _, _, _, _, rfl, l_Run_init, c_Run_init⟩
  have B_Run_init := C8.Fun.binds (ps := ["self", "delays"]) F_Run_init rfl fun _ _ _ _ _ _ us hl => match us, hl with | [_, _], _ => rfl
  have F_Run_take : C8.Fun K "take" "Run.take" s_Run_take f_Run_take _ := ⟨_, _, _, _, _, _, _, _, _, _, rfl, l_Run_take, c_Run_take⟩
  have B_Run_take := C8.Fun.binds (ps := ["self", "least", "most"]) F_Run_take rfl fun _ _ _ _ _ _ us hl => match us, hl with | [_, _, _], _ => rfl
  have F_Run_follow : C8.Fun K "follow" "Run.follow" s_Run_follow f_Run_follow _ := ⟨_, _, _, _, _, _, _, _, _, _, rfl, l_Run_follow, c_Run_follow⟩
  have B_Run_follow := C8.Fun.binds (ps := ["self", "plan"]) F_Run_follow rfl fun _ _ _ _ _ _ us hl => match us, hl with | [_, _], _ => rfl
  have F_Watcher_init : C8.Fun K "__init__" "Watcher.__init__" s_Watcher_init f_Watcher_init _ := ⟨_, _, _, _, _, _, _, _, _, _, rfl, l_Watcher_init, c_Watcher_init⟩
  have B_Watcher_init := C8.Fun.binds (ps := ["self", "window"]) F_Watcher_init rfl fun _ _ _ _ _ _ us hl => match us, hl with | [_, _], _ => rfl
  have F_Watcher_gap_behind_pat : C8.Fun K "gap_behind_pat" "Watcher.gap_behind_pat" s_Watcher_gap_behind_pat f_Watcher_gap_behind_pat _ := ⟨_, _, _, _, _, _, _, _, _, _, rfl, l_Watcher_gap_behind_pat, c_Watcher_gap_behind_pat⟩
  have B_Watcher_gap_behind_pat := C8.Fun.binds (ps := ["self", "gap"]) F_Watcher_gap_behind_pat rfl fun _ _ _ _ _ _ us hl => match us, hl with | [_, _], _ => rfl
  have F_Watcher_gap_behind_work : C8.Fun K "gap_behind_work" "Watcher.gap_behind_work" s_Watcher_gap_behind_work f_Watcher_gap_behind_work _ := ⟨_, _, _, _, _, _, _, _, _, _, rfl, l_Watcher_gap_behind_work, c_Watcher_gap_behind_work⟩
  have B_Watcher_gap_behind_work := C8.Fun.binds (ps := ["self", "gap", "delay"]) F_Watcher_gap_behind_work rfl fun _ _ _ _ _ _ us hl => match us, hl with | [_, _, _], _ => rfl
  have F_Watcher_gaps_ahead_of_pat : C8.Fun K "gaps_ahead_of_pat" "Watcher.gaps_ahead_of_pat" s_Watcher_gaps_ahead_of_pat f_Watcher_gaps_ahead_of_pat _ := ⟨_, _, _, _, _, _, _, _, _, _, rfl, l_Watcher_gaps_ahead_of_pat, c_Watcher_gaps_ahead_of_pat⟩
  have B_Watcher_gaps_ahead_of_pat := C8.Fun.binds (ps := ["self", "goal"]) F_Watcher_gaps_ahead_of_pat rfl fun _ _ _ _ _ _ us hl => match us, hl with | [_, _], _ => rfl
  have F_Watcher_gaps_ahead_of_work : C8.Fun K "gaps_ahead_of_work" "Watcher.gaps_ahead_of_work" s_Watcher_gaps_ahead_of_work f_Watcher_gaps_ahead_of_work _ := ⟨_, _, _, _, _, _, _, _, _, _, rfl, l_Watcher_gaps_ahead_of_work, c_Watcher_gaps_ahead_of_work⟩
  have B_Watcher_gaps_ahead_of_work := C8.Fun.binds (ps := ["self", "goal", "least", "most"]) F_Watcher_gaps_ahead_of_work rfl fun _ _ _ _ _ _ us hl => match us, hl with | [_, _, _, _], _ => rfl
  have F_PatWay_init : C8.Fun K "__init__" "PatWay.__init__" s_PatWay_init f_PatWay_init _ := ⟨_, _, _, _, _, _, _, _, _, _, rfl, l_PatWay_init, c_PatWay_init⟩
  have B_PatWay_init := C8.Fun.binds (ps := ["self", "watcher", "goal"]) F_PatWay_init rfl fun _ _ _ _ _ _ us hl => match us, hl with | [_, _, _], _ => rfl
  have F_PatWay_lead : C8.Fun K "lead" "PatWay.lead" s_PatWay_lead f_PatWay_lead _ := ⟨_, _, _, _, _, _, _, _, _, _, rfl, l_PatWay_lead, c_PatWay_lead⟩
  have B_PatWay_lead := C8.Fun.binds (ps := ["self", "gap", "delays"]) F_PatWay_lead rfl fun _ _ _ _ _ _ us hl => match us, hl with | [_, _, _], _ => rfl
  have F_WorkWay_init : C8.Fun K "__init__" "WorkWay.__init__" s_WorkWay_init f_WorkWay_init _ := ⟨_, _, _, _, _, _, _, _, _, _, rfl, l_WorkWay_init, c_WorkWay_init⟩
  have B_WorkWay_init := C8.Fun.binds (ps := ["self", "watcher", "plan", "goal"]) F_WorkWay_init rfl fun _ _ _ _ _ _ us hl => match us, hl with | [_, _, _, _], _ => rfl
  have F_WorkWay_lead : C8.Fun K "lead" "WorkWay.lead" s_WorkWay_lead f_WorkWay_lead _ := ⟨_, _, _, _, _, _, _, _, _, _, rfl, l_WorkWay_lead, c_WorkWay_lead⟩
  have B_WorkWay_lead := C8.Fun.binds (ps := ["self", "gap", "delays"]) F_WorkWay_lead rfl fun _ _ _ _ _ _ us hl => match us, hl with | [_, _, _], _ => rfl
  have F_RowWay_init : C8.Fun K "__init__" "RowWay.__init__" s_RowWay_init f_RowWay_init _ := ⟨_, _, _, _, _, _, _, _, _, _, rfl, l_RowWay_init, c_RowWay_init⟩
  have B_RowWay_init := C8.Fun.binds (ps := ["self", "watcher", "plan", "goal"]) F_RowWay_init rfl fun _ _ _ _ _ _ us hl => match us, hl with | [_, _, _, _], _ => rfl
  have F_RowWay_lead : C8.Fun K "lead" "RowWay.lead" s_RowWay_lead f_RowWay_lead _ := ⟨_, _, _, _, _, _, _, _, _, _, rfl, l_RowWay_lead, c_RowWay_lead⟩
  have B_RowWay_lead := C8.Fun.binds (ps := ["self", "gap", "delays"]) F_RowWay_lead rfl fun _ _ _ _ _ _ us hl => match us, hl with | [_, _, _], _ => rfl
  have F_EitherWay_init : C8.Fun K "__init__" "EitherWay.__init__" s_EitherWay_init f_EitherWay_init _ := ⟨_, _, _, _, _, _, _, _, _, _, rfl, l_EitherWay_init, c_EitherWay_init⟩
  have B_EitherWay_init := C8.Fun.binds (ps := ["self", "watcher", "plan", "goal"]) F_EitherWay_init rfl fun _ _ _ _ _ _ us hl => match us, hl with | [_, _, _, _], _ => rfl
  have F_EitherWay_lead : C8.Fun K "lead" "EitherWay.lead" s_EitherWay_lead f_EitherWay_lead _ := ⟨_, _, _, _, _, _, _, _, _, _, rfl, l_EitherWay_lead, c_EitherWay_lead⟩
  have B_EitherWay_lead := C8.Fun.binds (ps := ["self", "gap", "delays"]) F_EitherWay_lead rfl fun _ _ _ _ _ _ us hl => match us, hl with | [_, _, _], _ => rfl
  have F_LoopWay_init : C8.Fun K "__init__" "LoopWay.__init__" s_LoopWay_init f_LoopWay_init _ := ⟨_, _, _, _, _, _, _, _, _, _, rfl, l_LoopWay_init, c_LoopWay_init⟩
  have B_LoopWay_init := C8.Fun.binds (ps := ["self", "watcher", "plan", "goal"]) F_LoopWay_init rfl fun _ _ _ _ _ _ us hl => match us, hl with | [_, _, _, _], _ => rfl
  have F_LoopWay_lead : C8.Fun K "lead" "LoopWay.lead" s_LoopWay_lead f_LoopWay_lead _ := ⟨_, _, _, _, _, _, _, _, _, _, rfl, l_LoopWay_lead, c_LoopWay_lead⟩
  have B_LoopWay_lead := C8.Fun.binds (ps := ["self", "gap", "delays"]) F_LoopWay_lead rfl fun _ _ _ _ _ _ us hl => match us, hl with | [_, _, _], _ => rfl
  have R : Refs K mg CD [C_0, C_1, C_2, C_3, C_4, C_5, C_6, C_7, C_8] :=
    ⟨PySem.W.mg_none_of X G z_isinstance, PySem.W.mg_none_of X G z_ValueError, PySem.W.mg_of X G aD, ⟨_, rfl, PySem.W.mg_of X G aC0⟩, ⟨_, rfl, PySem.W.mg_of X G aC1⟩, ⟨_, rfl, PySem.W.mg_of X G aC2⟩, ⟨_, rfl, PySem.W.mg_of X G aC3⟩, ⟨_, rfl, PySem.W.mg_of X G aC4⟩, ⟨_, rfl, PySem.W.mg_of X G aC5⟩, ⟨_, rfl, PySem.W.mg_of X G aC6⟩, ⟨_, rfl, PySem.W.mg_of X G aC7⟩, ⟨_, rfl, PySem.W.mg_of X G aC8⟩⟩
  have RP : IsRef K CD [C_0, C_1, C_2, C_3, C_4, C_5, C_6, C_7, C_8] 1 C_1 := by
    refine ⟨rfl, ⟨hg1, hk1, b1, hd1, ha1, xn, xt, hm1⟩, PySem.W.exm_ref bD hD tD sD1, kv1, fun j C' e => ?_⟩
    match j, e with
    | 0, e => cases e; exact ki1_0
    | 1, e => cases e; exact ki1_1
    | 2, e => cases e; exact ki1_2
    | 3, e => cases e; exact ki1_3
    | 4, e => cases e; exact ki1_4
    | 5, e => cases e; exact ki1_5
    | 6, e => cases e; exact ki1_6
    | 7, e => cases e; exact ki1_7
    | 8, e => cases e; exact ki1_8
  have RW : IsRef K CD [C_0, C_1, C_2, C_3, C_4, C_5, C_6, C_7, C_8] 0 C_0 := by
    refine ⟨rfl, ⟨hg0, hk0, b0, hd0, ha0, xn, xt, hm0⟩, PySem.W.exm_ref bD hD tD sD0, kv0, fun j C' e => ?_⟩
    match j, e with
    | 0, e => cases e; exact ki0_0
    | 1, e => cases e; exact ki0_1
    | 2, e => cases e; exact ki0_2
    | 3, e => cases e; exact ki0_3
    | 4, e => cases e; exact ki0_4
    | 5, e => cases e; exact ki0_5
    | 6, e => cases e; exact ki0_6
    | 7, e => cases e; exact ki0_7
    | 8, e => cases e; exact ki0_8
  have RB : IsRef K CD [C_0, C_1, C_2, C_3, C_4, C_5, C_6, C_7, C_8] 2 C_2 := by
    refine ⟨rfl, ⟨hgB, hkB, bB, hdB, haB, xn, xt, hmB⟩, PySem.W.exm_ref bD hD tD sDB, kvB, fun j C' e => ?_⟩
    match j, e with
    | 0, e => cases e; exact kiB_0
    | 1, e => cases e; exact kiB_1
    | 2, e => cases e; exact kiB_2
    | 3, e => cases e; exact kiB_3
    | 4, e => cases e; exact kiB_4
    | 5, e => cases e; exact kiB_5
    | 6, e => cases e; exact kiB_6
    | 7, e => cases e; exact kiB_7
    | 8, e => cases e; exact kiB_8
  have T0 : K02.Txt K mg := ⟨PySem.W.mg_none_of X G z_isinstance, PySem.W.mg_none_of X G z_len, PySem.W.mg_none_of X G z_int, PySem.W.mg_none_of X G z_bool, PySem.W.mg_none_of X G z_range, PySem.W.mg_none_of X G z_list, PySem.W.mg_none_of X G z_tuple, PySem.W.mg_none_of X G z_str, PySem.W.mg_none_of X G z_sum⟩
  have T : K02.TxtP K mg := ⟨T0, ⟨_, PySem.W.mg_of X G q_LONGEST_WORK⟩, ⟨_, PySem.W.mg_of X G q_MOST_TIMES⟩, ⟨_, PySem.W.mg_of X G q_LONGEST_ROW⟩, ⟨_, PySem.W.mg_of X G q_MOST_PLANS⟩, ⟨_, PySem.W.mg_of X G q_MOST_DEEP⟩, ⟨_, PySem.W.mg_of X G q_MOST_LOOPS⟩⟩
  have TJ : K02.TxtJ K mg := ⟨T, PySem.W.mg_none_of X G z_min, PySem.W.mg_none_of X G z_reversed⟩
  have TQ : K02.TxtQ K mg := ⟨TJ, ⟨_, PySem.W.mg_of X G q_GREATEST_HIGH⟩⟩
  have TZ : TxtZ K mg C_1 C_0 := ⟨TQ, PySem.W.mg_of X G aC1, x1, kk1, b1, t1, PySem.W.mg_of X G aC0, x0, kk0, b0, t0⟩
  have TR : K02.TxtR K C_Run := ⟨⟨pg_Run, hdd_Run, po_Run, sa_Run⟩, n_Run_delays, n_Run_used, n_Run_now, n_Run_pats⟩
  have TU : K02R.TxtR K C_Run := ⟨⟨pg_Run, hdd_Run, po_Run, sa_Run⟩, n_Run_delays, n_Run_used, n_Run_now, n_Run_pats⟩
  have TB : TxtB K mg C_2 CD f_BadDelays_init := ⟨⟨⟨_, _, _, _, _, _, _, _, _, _, _, _, _, _, _, xL, (by show PySem.HandSPX.refsVE [.type "ValueError", .type "Exception", .type "BaseException", .type "object"] = true; decide +kernel)⟩, saB, bB, tB, kkB⟩, a_BadDelays_init, tI, PySem.W.mg_of X G aC2, PySem.W.mg_of X G aD, ⟨rdD, gaD⟩, vVD, naB⟩
  have F_init : C8.Fun K "__init__" "BadDelays.__init__" s_BadDelays_init f_BadDelays_init _ := ⟨_, _, _, _, _, _, _, _, _, _, rfl, l_BadDelays_init, c_BadDelays_init⟩
  have B_init := C8.Fun.binds (ps := ["self", "at"]) F_init rfl fun _ _ _ _ _ _ us hl => match us, hl with | [_, _], _ => rfl
  have TW : K02.TxtWt K C_Watcher := ⟨⟨pg_Watcher, hdd_Watcher, po_Watcher, sa_Watcher⟩, n_Watcher_low, n_Watcher_high, n_Watcher_bitten, n_Watcher_bite, n_Watcher_too_soon, n_Watcher_timely⟩
  have TY : K02.TxtY K C_PatWay C_WorkWay C_RowWay C_EitherWay C_LoopWay := ⟨⟨pg_PatWay, hdd_PatWay, po_PatWay, sa_PatWay⟩, ⟨pg_WorkWay, hdd_WorkWay, po_WorkWay, sa_WorkWay⟩, ⟨pg_RowWay, hdd_RowWay, po_RowWay, sa_RowWay⟩, ⟨pg_EitherWay, hdd_EitherWay, po_EitherWay, sa_EitherWay⟩, ⟨pg_LoopWay, hdd_LoopWay, po_LoopWay, sa_LoopWay⟩, n_PatWay_watcher, n_PatWay_gaps, n_WorkWay_watcher, n_WorkWay_goal, n_WorkWay_least, n_WorkWay_gaps, n_RowWay_ways, n_RowWay_gaps, n_EitherWay_ways, n_EitherWay_gaps, n_LoopWay_least, n_LoopWay_turns, n_LoopWay_goals, n_LoopWay_gaps⟩
  refine ⟨PySem.W.fnOf "law" "law" (C8.fnArgs s_law) (C8.fnBody s_law) (C8.fnScope s_law) .none kV_law dc_law pm_law an_law (.ref cc) ct_law, [(cc, Pt)], sp_law K Pt, fun p hp => by rw [List.mem_singleton.mp hp]; exact hT, fun p hp => by rw [List.mem_singleton.mp hp]; exact nPt, fun p hp => by rw [List.mem_singleton.mp hp]; exact PySem.W.codeHd_of_K X hch, fun s u => .of_eq rfl,
    fun H a ns hl _ ht hs => ⟨a, ns, rfl, hs, hl, ht _ (List.mem_singleton.mpr rfl), fun _ => rfl⟩, fun base KB GB tb => ?_⟩
  have g0 := K02.ok_is_number (P := l.prog) (w := w) (base := base) T D_is_number B_is_number
  have v1 := K02.ok_take T TR ⟨a_Run_take, i_Run_take, k_Run_take⟩ F_Run_take B_Run_take g0
  have v2 := K02.ok_follow T TR ⟨a_Run_follow, i_Run_follow, k_Run_follow⟩ F_Run_follow B_Run_follow v1 6
  have v0 := K02.ok_init (P := l.prog) (w := w) (base := base) T TR ⟨mk_Run, a_Run_init, i_Run_init, kc_Run⟩ (PySem.W.mg_of X G aC_Run) F_Run_init B_Run_init
  have u0 := K02.ok_holds (P := l.prog) (w := w) (mg := mg) (base := base) D_holds B_holds
  have u1 := K02.ok_spread (P := l.prog) (w := w) (base := base) TJ D_spread B_spread
  have w0 := K02.ok_winit (P := l.prog) (w := w) (mg := mg) (base := base) TW ⟨mk_Watcher, a_Watcher_init, i_Watcher_init, kc_Watcher⟩ (PySem.W.mg_of X G aC_Watcher) F_Watcher_init B_Watcher_init
  have w1 := K02.ok_gbp (P := l.prog) (w := w) (mg := mg) (base := base) TW ⟨a_Watcher_gap_behind_pat, i_Watcher_gap_behind_pat, k_Watcher_gap_behind_pat⟩ F_Watcher_gap_behind_pat B_Watcher_gap_behind_pat
  have w2 := K02.ok_gbw (P := l.prog) (w := w) (base := base) TW TJ ⟨a_Watcher_gap_behind_work, i_Watcher_gap_behind_work, k_Watcher_gap_behind_work⟩ F_Watcher_gap_behind_work B_Watcher_gap_behind_work
  have w3 := K02.ok_gap TW ⟨a_Watcher_gaps_ahead_of_pat, i_Watcher_gaps_ahead_of_pat, k_Watcher_gaps_ahead_of_pat⟩ F_Watcher_gaps_ahead_of_pat B_Watcher_gaps_ahead_of_pat u0
  have w4 := K02.ok_gaw TW ⟨a_Watcher_gaps_ahead_of_work, i_Watcher_gaps_ahead_of_work, k_Watcher_gaps_ahead_of_work⟩ F_Watcher_gaps_ahead_of_work B_Watcher_gaps_ahead_of_work u0 u1
  have y0 := K02.ok_pinit TY ⟨mk_PatWay, a_PatWay_init, i_PatWay_init, kc_PatWay⟩ (PySem.W.mg_of X G aC_PatWay) F_PatWay_init B_PatWay_init w3
  have y1 := K02.ok_kinit TY ⟨mk_WorkWay, a_WorkWay_init, i_WorkWay_init, kc_WorkWay⟩ (PySem.W.mg_of X G aC_WorkWay) F_WorkWay_init B_WorkWay_init w4
  have y2 := K02.ok_way TY TJ D_way_to B_way_to y0 y1 ⟨mk_RowWay, a_RowWay_init, i_RowWay_init, kc_RowWay⟩ (PySem.W.mg_of X G aC_RowWay) F_RowWay_init B_RowWay_init ⟨mk_EitherWay, a_EitherWay_init, i_EitherWay_init, kc_EitherWay⟩ (PySem.W.mg_of X G aC_EitherWay) F_EitherWay_init B_EitherWay_init ⟨mk_LoopWay, a_LoopWay_init, i_LoopWay_init, kc_LoopWay⟩ (PySem.W.mg_of X G aC_LoopWay) F_LoopWay_init B_LoopWay_init 5
  have y3 := K02.ok_lead TY TJ ⟨a_PatWay_lead, i_PatWay_lead, k_PatWay_lead⟩ F_PatWay_lead B_PatWay_lead ⟨a_WorkWay_lead, i_WorkWay_lead, k_WorkWay_lead⟩ F_WorkWay_lead B_WorkWay_lead ⟨a_RowWay_lead, i_RowWay_lead, k_RowWay_lead⟩ F_RowWay_lead B_RowWay_lead ⟨a_EitherWay_lead, i_EitherWay_lead, k_EitherWay_lead⟩ F_EitherWay_lead B_EitherWay_lead ⟨a_LoopWay_lead, i_LoopWay_lead, k_LoopWay_lead⟩ F_LoopWay_lead B_LoopWay_lead w1 w2 u0 5
  have j0 := K02.ok_gr (n := 5) TY TW TJ D_goals_of_rounds B_goals_of_rounds u0 y2
  have j1 := K02.ok_dr (n := 5) TY TJ D_delays_of_rounds B_delays_of_rounds y3 y2
  have j3 := K02.ok_first_bite (P := l.prog) (w := w) (base := base) TQ D_first_bite B_first_bite
  have j4 := K02.ok_br (n := 5) TQ TR D_bite_of_rounds B_bite_of_rounds v0 v2 j3
  have n0 := ok_numberD (P := l.prog) (w := w) (base := base) T D_is_number B_is_number
  have n1 := ok_rangeD T D_is_range B_is_range n0
  have n2 := ok_formD T D_has_form B_has_form n1
  have n3 := ok_kidsD (P := l.prog) (w := w) (base := base) T D_plans_in B_plans_in
  have n4 := ok_checkD TZ D_check_plan B_check_plan n2 n3
  have n5 := ok_windX TZ D_check_window B_check_window n1
  have n6 := ok_jdX TZ D_judged B_judged n5 n4 w0 j0 j1 j4
  have gI := ok_binit (P := l.prog) (w := w) (base := base) (mg := mg) TB F_init
  have r1 := K02R.ok_take T TU TB gI B_init ⟨a_Run_take, i_Run_take, k_Run_take⟩ F_Run_take B_Run_take g0
  have r2 := K02R.ok_follow T TU ⟨a_Run_follow, i_Run_follow, k_Run_follow⟩ F_Run_follow B_Run_follow r1 6
  have r0 := K02R.ok_init (P := l.prog) (w := w) (base := base) T TU ⟨mk_Run, a_Run_init, i_Run_init, kc_Run⟩ (PySem.W.mg_of X G aC_Run) F_Run_init B_Run_init
  have r3 := ok_runX T TU TB gI B_init D_run_plan B_run_plan n4 r0 r2
  have h1 := K02.ok_start (P := l.prog) (w := w) (base := base) T0 D_law_start B_law_start
  have h2 := K02.ok_drawn (P := l.prog) (w := w) (base := base) T0 D_law_drawn B_law_drawn
  have h3 := K02.ok_plan T0 D_law_plan B_law_plan h2 5
  have h4 := ok_turned T D_law_turned B_law_turned h2 22
  have h5 := ok_looks (P := l.prog) (w := w) (base := base) T D_law_looks B_law_looks 7
  exact ok_law TZ R RP RW RB (tb _ (List.mem_singleton.mpr rfl)) l_law c_law D_law_kind B_law_kind h1 h2 h3 h4 h5 n6 r3
end K02R
open PySem PySem.W PyProof.Rows
set_option maxRecDepth 100000 in
set_option maxHeartbeats 0 in
theorem PySem.Challenge.cw_windowdog_k02_plans_that_are_none_holds : PySem.Challenge.rw_windowdog_k02_plans_that_are_none.Holds := by
  w_on; o_law; k_head; (case hw => w_witness2)
  k_fill
  refine LamX.walk_ofTs (l := PySem.Challenge.rw_windowdog_k02_plans_that_are_none) (n := 63) (k := 25) (x := "_law_script") (CX := fun _ => C8.CX0) rfl (by decide) rfl ⟨rfl, by decide, by decide⟩ (fun w h Y => PySem.W.km_in_of Y) ?F (fun _ _ _ _ _ z => z)
  case F =>
    intro w mg fa h Y KX G hmg
    refine' K02R.law_at KX G hmg ?a_is_number ?l_is_number ?c_is_number ?k_is_number ?a_is_range ?l_is_range ?c_is_range ?k_is_range ?a_has_form ?l_has_form ?c_has_form ?k_has_form ?a_plans_in ?l_plans_in ?c_plans_in ?k_plans_in ?a_check_plan ?l_check_plan ?c_check_plan ?k_check_plan ?a_run_plan ?l_run_plan ?c_run_plan ?k_run_plan ?a_check_window ?l_check_window ?c_check_window ?k_check_window ?a_first_bite ?l_first_bite ?c_first_bite ?k_first_bite ?a_holds ?l_holds ?c_holds ?k_holds ?a_spread ?l_spread ?c_spread ?k_spread ?a_way_to ?l_way_to ?c_way_to ?k_way_to ?a_goals_of_rounds ?l_goals_of_rounds ?c_goals_of_rounds ?k_goals_of_rounds ?a_delays_of_rounds ?l_delays_of_rounds ?c_delays_of_rounds ?k_delays_of_rounds ?a_bite_of_rounds ?l_bite_of_rounds ?c_bite_of_rounds ?k_bite_of_rounds ?a_judged ?l_judged ?c_judged ?k_judged ?a_law_start ?l_law_start ?c_law_start ?k_law_start ?a_law_drawn ?l_law_drawn ?c_law_drawn ?k_law_drawn ?a_law_kind ?l_law_kind ?c_law_kind ?k_law_kind ?a_law_plan ?l_law_plan ?c_law_plan ?k_law_plan ?a_law_turned ?l_law_turned ?c_law_turned ?k_law_turned ?a_law_looks ?l_law_looks ?c_law_looks ?k_law_looks ?a_law ?l_law ?c_law ?k_law ?aC_Run ?a_Run_init ?i_Run_init ?l_Run_init ?c_Run_init ?k_Run_init ?a_Run_take ?i_Run_take ?l_Run_take ?c_Run_take ?k_Run_take ?a_Run_follow ?i_Run_follow ?l_Run_follow ?c_Run_follow ?k_Run_follow ?pg_Run ?hdd_Run ?po_Run ?sa_Run ?mk_Run ?kc_Run ?n_Run_delays ?n_Run_used ?n_Run_now ?n_Run_pats ?aC_Watcher ?a_Watcher_init ?i_Watcher_init ?l_Watcher_init ?c_Watcher_init ?k_Watcher_init ?a_Watcher_gap_behind_pat ?i_Watcher_gap_behind_pat ?l_Watcher_gap_behind_pat ?c_Watcher_gap_behind_pat ?k_Watcher_gap_behind_pat ?a_Watcher_gap_behind_work ?i_Watcher_gap_behind_work ?l_Watcher_gap_behind_work ?c_Watcher_gap_behind_work ?k_Watcher_gap_behind_work ?a_Watcher_gaps_ahead_of_pat ?i_Watcher_gaps_ahead_of_pat ?l_Watcher_gaps_ahead_of_pat ?c_Watcher_gaps_ahead_of_pat ?k_Watcher_gaps_ahead_of_pat ?a_Watcher_gaps_ahead_of_work ?i_Watcher_gaps_ahead_of_work ?l_Watcher_gaps_ahead_of_work ?c_Watcher_gaps_ahead_of_work ?k_Watcher_gaps_ahead_of_work ?pg_Watcher ?hdd_Watcher ?po_Watcher ?sa_Watcher ?mk_Watcher ?kc_Watcher ?n_Watcher_low ?n_Watcher_high ?n_Watcher_bitten ?n_Watcher_bite ?n_Watcher_too_soon ?n_Watcher_timely ?aC_PatWay ?a_PatWay_init ?i_PatWay_init ?l_PatWay_init ?c_PatWay_init ?k_PatWay_init ?a_PatWay_lead ?i_PatWay_lead ?l_PatWay_lead ?c_PatWay_lead ?k_PatWay_lead ?pg_PatWay ?hdd_PatWay ?po_PatWay ?sa_PatWay ?mk_PatWay ?kc_PatWay ?n_PatWay_watcher ?n_PatWay_gaps ?aC_WorkWay ?a_WorkWay_init ?i_WorkWay_init ?l_WorkWay_init ?c_WorkWay_init ?k_WorkWay_init ?a_WorkWay_lead ?i_WorkWay_lead ?l_WorkWay_lead ?c_WorkWay_lead ?k_WorkWay_lead ?pg_WorkWay ?hdd_WorkWay ?po_WorkWay ?sa_WorkWay ?mk_WorkWay ?kc_WorkWay ?n_WorkWay_watcher ?n_WorkWay_goal ?n_WorkWay_least ?n_WorkWay_gaps ?aC_RowWay ?a_RowWay_init ?i_RowWay_init ?l_RowWay_init ?c_RowWay_init ?k_RowWay_init ?a_RowWay_lead ?i_RowWay_lead ?l_RowWay_lead ?c_RowWay_lead ?k_RowWay_lead ?pg_RowWay ?hdd_RowWay ?po_RowWay ?sa_RowWay ?mk_RowWay ?kc_RowWay ?n_RowWay_ways ?n_RowWay_gaps ?aC_EitherWay ?a_EitherWay_init ?i_EitherWay_init ?l_EitherWay_init ?c_EitherWay_init ?k_EitherWay_init ?a_EitherWay_lead ?i_EitherWay_lead ?l_EitherWay_lead ?c_EitherWay_lead ?k_EitherWay_lead ?pg_EitherWay ?hdd_EitherWay ?po_EitherWay ?sa_EitherWay ?mk_EitherWay ?kc_EitherWay ?n_EitherWay_ways ?n_EitherWay_gaps ?aC_LoopWay ?a_LoopWay_init ?i_LoopWay_init ?l_LoopWay_init ?c_LoopWay_init ?k_LoopWay_init ?a_LoopWay_lead ?i_LoopWay_lead ?l_LoopWay_lead ?c_LoopWay_lead ?k_LoopWay_lead ?pg_LoopWay ?hdd_LoopWay ?po_LoopWay ?sa_LoopWay ?mk_LoopWay ?kc_LoopWay ?n_LoopWay_least ?n_LoopWay_turns ?n_LoopWay_goals ?n_LoopWay_gaps ?lc ?v11 ?hch ?nPt ?z_isinstance ?z_len ?z_int ?z_bool ?z_range ?z_list ?z_tuple ?z_str ?z_sum ?z_min ?z_reversed ?z_ValueError ?q_LONGEST_WORK ?q_MOST_TIMES ?q_LONGEST_ROW ?q_MOST_PLANS ?q_MOST_DEEP ?q_MOST_LOOPS ?q_GREATEST_HIGH ?aD ?aC0 ?aC1 ?aC2 ?aC3 ?aC4 ?aC5 ?aC6 ?aC7 ?aC8 ?bD ?hD ?tD ?xn ?xt ?x0 ?kk0 ?b0 ?t0 ?hg0 ?hk0 ?hd0 ?ha0 ?hm0 ?sD0 ?kv0 ?ki0_0 ?ki0_1 ?ki0_2 ?ki0_3 ?ki0_4 ?ki0_5 ?ki0_6 ?ki0_7 ?ki0_8 ?x1 ?kk1 ?b1 ?t1 ?hg1 ?hk1 ?hd1 ?ha1 ?hm1 ?sD1 ?kv1 ?ki1_0 ?ki1_1 ?ki1_2 ?ki1_3 ?ki1_4 ?ki1_5 ?ki1_6 ?ki1_7 ?ki1_8 ?xL ?saB ?a_BadDelays_init ?tI ?l_BadDelays_init ?c_BadDelays_init ?rdD ?gaD ?vVD ?naB ?kkB ?bB ?tB ?hgB ?hkB ?hdB ?haB ?hmB ?sDB ?kvB ?kiB_0 ?kiB_1 ?kiB_2 ?kiB_3 ?kiB_4 ?kiB_5 ?kiB_6 ?kiB_7 ?kiB_8 ?hT
    (case a_is_number => k_is)
    (case l_is_number => k_is)
    (case c_is_number => k_is)
    (case k_is_number => k_is)
    (case a_is_range => k_is)
    (case l_is_range => k_is)
    (case c_is_range => k_is)
    (case k_is_range => k_is)
    (case a_has_form => k_is)
    (case l_has_form => k_is)
    (case c_has_form => k_is)
    (case k_has_form => k_is)
    (case a_plans_in => k_is)
    (case l_plans_in => k_is)
    (case c_plans_in => k_is)
    (case k_plans_in => k_is)
    (case a_check_plan => k_is)
    (case l_check_plan => k_is)
    (case c_check_plan => k_is)
    (case k_check_plan => k_is)
    (case a_run_plan => k_is)
    (case l_run_plan => k_is)
    (case c_run_plan => k_is)
    (case k_run_plan => k_is)
    (case a_check_window => k_is)
    (case l_check_window => k_is)
    (case c_check_window => k_is)
    (case k_check_window => k_is)
    (case a_first_bite => k_is)
    (case l_first_bite => k_is)
    (case c_first_bite => k_is)
    (case k_first_bite => k_is)
    (case a_holds => k_is)
    (case l_holds => k_is)
    (case c_holds => k_is)
    (case k_holds => k_is)
    (case a_spread => k_is)
    (case l_spread => k_is)
    (case c_spread => k_is)
    (case k_spread => k_is)
    (case a_way_to => k_is)
    (case l_way_to => k_is)
    (case c_way_to => k_is)
    (case k_way_to => k_is)
    (case a_goals_of_rounds => k_is)
    (case l_goals_of_rounds => k_is)
    (case c_goals_of_rounds => k_is)
    (case k_goals_of_rounds => k_is)
    (case a_delays_of_rounds => k_is)
    (case l_delays_of_rounds => k_is)
    (case c_delays_of_rounds => k_is)
    (case k_delays_of_rounds => k_is)
    (case a_bite_of_rounds => k_is)
    (case l_bite_of_rounds => k_is)
    (case c_bite_of_rounds => k_is)
    (case k_bite_of_rounds => k_is)
    (case a_judged => k_is)
    (case l_judged => k_is)
    (case c_judged => k_is)
    (case k_judged => k_is)
    (case a_law_start => k_is)
    (case l_law_start => k_is)
    (case c_law_start => k_is)
    (case k_law_start => k_is)
    (case a_law_drawn => k_is)
    (case l_law_drawn => k_is)
    (case c_law_drawn => k_is)
    (case k_law_drawn => k_is)
    (case a_law_kind => k_is)
    (case l_law_kind => k_is)
    (case c_law_kind => k_is)
    (case k_law_kind => k_is)
    (case a_law_plan => k_is)
    (case l_law_plan => k_is)
    (case c_law_plan => k_is)
    (case k_law_plan => k_is)
    (case a_law_turned => k_is)
    (case l_law_turned => k_is)
    (case c_law_turned => k_is)
    (case k_law_turned => k_is)
    (case a_law_looks => k_is)
    (case l_law_looks => k_is)
    (case c_law_looks => k_is)
    (case k_law_looks => k_is)
    (case a_law => k_is)
    (case l_law => k_is)
    (case c_law => k_is)
    (case k_law => k_is)
    (case aC_Run => k_is)
    (case a_Run_init => k_is)
    (case i_Run_init => k_is)
    (case l_Run_init => k_is)
    (case c_Run_init => k_is)
    (case k_Run_init => k_is)
    (case a_Run_take => k_is)
    (case i_Run_take => k_is)
    (case l_Run_take => k_is)
    (case c_Run_take => k_is)
    (case k_Run_take => k_is)
    (case a_Run_follow => k_is)
    (case i_Run_follow => k_is)
    (case l_Run_follow => k_is)
    (case c_Run_follow => k_is)
    (case k_Run_follow => k_is)
    (case pg_Run => k_is)
    (case hdd_Run => k_is)
    (case po_Run => k_is)
    (case sa_Run => k_is)
    (case mk_Run => k_is)
    (case kc_Run => k_is)
    (case n_Run_delays => k_is)
    (case n_Run_used => k_is)
    (case n_Run_now => k_is)
    (case n_Run_pats => k_is)
    (case aC_Watcher => k_is)
    (case a_Watcher_init => k_is)
    (case i_Watcher_init => k_is)
    (case l_Watcher_init => k_is)
    (case c_Watcher_init => k_is)
    (case k_Watcher_init => k_is)
    (case a_Watcher_gap_behind_pat => k_is)
    (case i_Watcher_gap_behind_pat => k_is)
    (case l_Watcher_gap_behind_pat => k_is)
    (case c_Watcher_gap_behind_pat => k_is)
    (case k_Watcher_gap_behind_pat => k_is)
    (case a_Watcher_gap_behind_work => k_is)
    (case i_Watcher_gap_behind_work => k_is)
    (case l_Watcher_gap_behind_work => k_is)
    (case c_Watcher_gap_behind_work => k_is)
    (case k_Watcher_gap_behind_work => k_is)
    (case a_Watcher_gaps_ahead_of_pat => k_is)
    (case i_Watcher_gaps_ahead_of_pat => k_is)
    (case l_Watcher_gaps_ahead_of_pat => k_is)
    (case c_Watcher_gaps_ahead_of_pat => k_is)
    (case k_Watcher_gaps_ahead_of_pat => k_is)
    (case a_Watcher_gaps_ahead_of_work => k_is)
    (case i_Watcher_gaps_ahead_of_work => k_is)
    (case l_Watcher_gaps_ahead_of_work => k_is)
    (case c_Watcher_gaps_ahead_of_work => k_is)
    (case k_Watcher_gaps_ahead_of_work => k_is)
    (case pg_Watcher => k_is)
    (case hdd_Watcher => k_is)
    (case po_Watcher => k_is)
    (case sa_Watcher => k_is)
    (case mk_Watcher => k_is)
    (case kc_Watcher => k_is)
    (case n_Watcher_low => k_is)
    (case n_Watcher_high => k_is)
    (case n_Watcher_bitten => k_is)
    (case n_Watcher_bite => k_is)
    (case n_Watcher_too_soon => k_is)
    (case n_Watcher_timely => k_is)
    (case aC_PatWay => k_is)
    (case a_PatWay_init => k_is)
    (case i_PatWay_init => k_is)
    (case l_PatWay_init => k_is)
    (case c_PatWay_init => k_is)
    (case k_PatWay_init => k_is)
    (case a_PatWay_lead => k_is)
    (case i_PatWay_lead => k_is)
    (case l_PatWay_lead => k_is)
    (case c_PatWay_lead => k_is)
    (case k_PatWay_lead => k_is)
    (case pg_PatWay => k_is)
    (case hdd_PatWay => k_is)
    (case po_PatWay => k_is)
    (case sa_PatWay => k_is)
    (case mk_PatWay => k_is)
    (case kc_PatWay => k_is)
    (case n_PatWay_watcher => k_is)
    (case n_PatWay_gaps => k_is)
    (case aC_WorkWay => k_is)
    (case a_WorkWay_init => k_is)
    (case i_WorkWay_init => k_is)
    (case l_WorkWay_init => k_is)
    (case c_WorkWay_init => k_is)
    (case k_WorkWay_init => k_is)
    (case a_WorkWay_lead => k_is)
    (case i_WorkWay_lead => k_is)
    (case l_WorkWay_lead => k_is)
    (case c_WorkWay_lead => k_is)
    (case k_WorkWay_lead => k_is)
    (case pg_WorkWay => k_is)
    (case hdd_WorkWay => k_is)
    (case po_WorkWay => k_is)
    (case sa_WorkWay => k_is)
    (case mk_WorkWay => k_is)
    (case kc_WorkWay => k_is)
    (case n_WorkWay_watcher => k_is)
    (case n_WorkWay_goal => k_is)
    (case n_WorkWay_least => k_is)
    (case n_WorkWay_gaps => k_is)
    (case aC_RowWay => k_is)
    (case a_RowWay_init => k_is)
    (case i_RowWay_init => k_is)
    (case l_RowWay_init => k_is)
    (case c_RowWay_init => k_is)
    (case k_RowWay_init => k_is)
    (case a_RowWay_lead => k_is)
    (case i_RowWay_lead => k_is)
    (case l_RowWay_lead => k_is)
    (case c_RowWay_lead => k_is)
    (case k_RowWay_lead => k_is)
    (case pg_RowWay => k_is)
    (case hdd_RowWay => k_is)
    (case po_RowWay => k_is)
    (case sa_RowWay => k_is)
    (case mk_RowWay => k_is)
    (case kc_RowWay => k_is)
    (case n_RowWay_ways => k_is)
    (case n_RowWay_gaps => k_is)
    (case aC_EitherWay => k_is)
    (case a_EitherWay_init => k_is)
    (case i_EitherWay_init => k_is)
    (case l_EitherWay_init => k_is)
    (case c_EitherWay_init => k_is)
    (case k_EitherWay_init => k_is)
    (case a_EitherWay_lead => k_is)
    (case i_EitherWay_lead => k_is)
    (case l_EitherWay_lead => k_is)
    (case c_EitherWay_lead => k_is)
    (case k_EitherWay_lead => k_is)
    (case pg_EitherWay => k_is)
    (case hdd_EitherWay => k_is)
    (case po_EitherWay => k_is)
    (case sa_EitherWay => k_is)
    (case mk_EitherWay => k_is)
    (case kc_EitherWay => k_is)
    (case n_EitherWay_ways => k_is)
    (case n_EitherWay_gaps => k_is)
    (case aC_LoopWay => k_is)
    (case a_LoopWay_init => k_is)
    (case i_LoopWay_init => k_is)
    (case l_LoopWay_init => k_is)
    (case c_LoopWay_init => k_is)
    (case k_LoopWay_init => k_is)
    (case a_LoopWay_lead => k_is)
    (case i_LoopWay_lead => k_is)
    (case l_LoopWay_lead => k_is)
    (case c_LoopWay_lead => k_is)
    (case k_LoopWay_lead => k_is)
    (case pg_LoopWay => k_is)
    (case hdd_LoopWay => k_is)
    (case po_LoopWay => k_is)
    (case sa_LoopWay => k_is)
    (case mk_LoopWay => k_is)
    (case kc_LoopWay => k_is)
    (case n_LoopWay_least => k_is)
    (case n_LoopWay_turns => k_is)
    (case n_LoopWay_goals => k_is)
    (case n_LoopWay_gaps => k_is)
    (case lc => k_is)
    (case v11 => exact rfl)
    (case hch => kernel_rfl)
    (case nPt => kernel_rfl)
    (case z_isinstance => k_is)
    (case z_len => k_is)
    (case z_int => k_is)
    (case z_bool => k_is)
    (case z_range => k_is)
    (case z_list => k_is)
    (case z_tuple => k_is)
    (case z_str => k_is)
    (case z_sum => k_is)
    (case z_min => k_is)
    (case z_reversed => k_is)
    (case z_ValueError => k_is)
    (case q_LONGEST_WORK => k_is)
    (case q_MOST_TIMES => k_is)
    (case q_LONGEST_ROW => k_is)
    (case q_MOST_PLANS => k_is)
    (case q_MOST_DEEP => k_is)
    (case q_MOST_LOOPS => k_is)
    (case q_GREATEST_HIGH => k_is)
    (case aD => k_is)
    (case aC0 => k_is)
    (case aC1 => k_is)
    (case aC2 => k_is)
    (case aC3 => k_is)
    (case aC4 => k_is)
    (case aC5 => k_is)
    (case aC6 => k_is)
    (case aC7 => k_is)
    (case aC8 => k_is)
    (case bD => k_is)
    (case hD => k_is)
    (case tD => k_is)
    (case xn => k_is)
    (case xt => k_is)
    (case x0 => k_exc)
    (case kk0 => k_is)
    (case b0 => k_is)
    (case t0 => k_is)
    (case hg0 => k_is)
    (case hk0 => k_is)
    (case hd0 => k_is)
    (case ha0 => k_is)
    (case hm0 => k_is)
    (case sD0 => k_is)
    (case kv0 => kernel_rfl)
    (case ki0_0 => kernel_rfl)
    (case ki0_1 => kernel_rfl)
    (case ki0_2 => kernel_rfl)
    (case ki0_3 => kernel_rfl)
    (case ki0_4 => kernel_rfl)
    (case ki0_5 => kernel_rfl)
    (case ki0_6 => kernel_rfl)
    (case ki0_7 => kernel_rfl)
    (case ki0_8 => kernel_rfl)
    (case x1 => k_exc)
    (case kk1 => k_is)
    (case b1 => k_is)
    (case t1 => k_is)
    (case hg1 => k_is)
    (case hk1 => k_is)
    (case hd1 => k_is)
    (case ha1 => k_is)
    (case hm1 => k_is)
    (case sD1 => k_is)
    (case kv1 => kernel_rfl)
    (case ki1_0 => kernel_rfl)
    (case ki1_1 => kernel_rfl)
    (case ki1_2 => kernel_rfl)
    (case ki1_3 => kernel_rfl)
    (case ki1_4 => kernel_rfl)
    (case ki1_5 => kernel_rfl)
    (case ki1_6 => kernel_rfl)
    (case ki1_7 => kernel_rfl)
    (case ki1_8 => kernel_rfl)
    (case xL => k_is)
    (case saB => k_is)
    (case a_BadDelays_init => k_is)
    (case tI => k_is)
    (case l_BadDelays_init => k_is)
    (case c_BadDelays_init => k_is)
    (case rdD => k_is)
    (case gaD => k_is)
    (case vVD => k_is)
    (case naB => k_is)
    (case kkB => k_is)
    (case bB => k_is)
    (case tB => k_is)
    (case hgB => k_is)
    (case hkB => k_is)
    (case hdB => k_is)
    (case haB => k_is)
    (case hmB => k_is)
    (case sDB => k_is)
    (case kvB => kernel_rfl)
    (case kiB_0 => kernel_rfl)
    (case kiB_1 => kernel_rfl)
    (case kiB_2 => kernel_rfl)
    (case kiB_3 => kernel_rfl)
    (case kiB_4 => kernel_rfl)
    (case kiB_5 => kernel_rfl)
    (case kiB_6 => kernel_rfl)
    (case kiB_7 => kernel_rfl)
    (case kiB_8 => kernel_rfl)
    (case hT => exact PySem.W.km_tabs_of Y _ (by k_mem))
