import PyProof.Rows.All
import Wide.All
import OpenK.AllK
import Wide.FinOn
import HandS.ForMost
import HandS.ForExc
import HandS.Codes
import HandS.Lambda
import HandS.EndTab
import HandS.IsInst
import HandS.ExcIs
import HandS.Wide
import HandS.SetFor
import HandS.TupMul
import HandS.Conv
import HandS.Zip
import KE.KDflt
import HandS.Walk
import PySem.Challenge.RW_windowdog_k07_plans_with_pats
set_option Elab.async false
set_option linter.all false
set_option maxRecDepth 100000
set_option maxHeartbeats 4000000
/-! The readings step by step; heaps in which one list (the drawing's) changes. -/
namespace Wd
open PySem PySem.Spec PyProof.Rows L2

/-! ### rules -/
section
variable {X : Cx} {a b c d : Expr} {ta tb tc td : TE} {pos : Pos}
def tChain3 (r r' r2 : R2) (ta tb tc td : TE) : TE := fun σ H Q => ta σ H fun x H1 => tb σ H1 fun y H2 => r x y H2 fun z H3 => ∃ k, z = .bl k ∧
  (if k = true then tc σ H3 fun w' H4 => r' y w' H4 fun z2 H5 => ∃ k2, z2 = .bl k2 ∧ (if k2 = true then td σ H5 fun w2 H6 => r2 w' w2 H6 Q else Q (.bl false) H5) else Q (.bl false) H3)
theorem pe_chain3 {op op' op2 : CmpOp} {r r' r2 : R2} (ho : OpR X (compareOp op) r) (ho' : OpR X (compareOp op') r') (ho2 : OpR X (compareOp op2) r2) (ha : PE X a ta) (hb : PE X b tb) (hc : PE X c tc) (hd : PE X d td)
    (hm : lastMarks [op, op', op2] [b, c, d] = false := by with_unfolding_all rfl) : PE X (.Compare a [op, op', op2] [b, c, d] pos) (tChain3 r r' r2 ta tb tc td) := by
  refine ⟨fun pins s σ H Q I h => ?_⟩
  refine Compare_chain (thn (ha.run pins s σ H _ I h) fun v s1 ⟨x, H1, I1, r1, q1⟩ => chain_link (thn (hb.run pins s1 σ H1 _ I1 q1) fun u s2 ⟨y, H2, I2, r2, q2⟩ =>
    thn (ho pins s2 σ H2 x y v u _ I2 r1 r2 q2) fun d s3 ⟨z, H3, I3, r3, k, e, q3⟩ => ?_)) hm
  subst e
  cases r3
  refine wpAny_truthy_bool ?_
  cases k with
  | false => exact ite_ff ⟨.bl false, H3, I3, rfl, q3⟩
  | true =>
    refine ite_tt (chain_link (thn (hc.run pins s3 σ H3 _ I3 q3) fun w' s4 ⟨z', H4, I4, r4, q4⟩ => thn (ho' pins s4 σ H4 y z' u w' _ I4 r2 r4 q4) fun d5 s5 ⟨z5, H5, I5, r5, k5, e5, q5⟩ => ?_))
    subst e5
    cases r5
    refine wpAny_truthy_bool ?_
    cases k5 with
    | false => exact ite_ff ⟨.bl false, H5, I5, rfl, q5⟩
    | true => exact ite_tt (chain_last (thn (hd.run pins s5 σ H5 _ I5 q5) fun w6 s6 ⟨z6, H6, I6, r6, q6⟩ => ho2 pins s6 σ H6 z' z6 w' w6 Q I6 r4 r6 q6))
end

section
variable {X : Cx} {K : PySem.W.Frag} {name : Str} {T id : String} {r : V → List V → Hp → VK → Prop} {o e : Expr} {es : List Expr} {to : TE} {t : TA} {apos cpos : Pos}
theorem pe_bmK (hK : X.K = K) (pa : PlainAttrs T) (slot : Slot T name id) (hty : typeOf (.builtin id) = pure (.type "method_descriptor")) (hm : MtR X id r) (ho : PE X o to) (ha : PA X (e :: es) t)
    (hbase : attributeBase o name X.env (eval o X.env) = eval o X.env := by rfl)
    (hfew : ((backTo cpos (starEach (e :: es) X.env)).all (fun x => !x.1) && (backToKw cpos (keywordEach [] X.env)).all (fun x => x.1.isSome)
      && decide ((e :: es).length + ([] : List Keyword).length + (if ([] : List Keyword).isEmpty then 0 else 1) < 30)) = true := by rfl)
    (hline : (apos.endLine == cpos.line) = true := by rfl) (hs : starEach (e :: es) X.env = (false, eval e X.env) :: starEach es X.env := by rfl) (hplain : (backTo cpos (starEach es X.env)).any (·.1) = false := by rfl) : PE X (.Call (.Attribute o name apos) (e :: es) [] cpos) (tBM K T r to t) := by
  subst hK; exact pe_bm pa slot hty hm ho ha hbase hfew hline hs hplain
theorem pe_bm0K (hK : X.K = K) (pa : PlainAttrs T) (slot : Slot T name id) (hty : typeOf (.builtin id) = pure (.type "method_descriptor")) (hm : MtR X id r) (ho : PE X o to)
    (hbase : attributeBase o name X.env (eval o X.env) = eval o X.env := by rfl) (hline : (apos.endLine == cpos.line) = true := by rfl) : PE X (.Call (.Attribute o name apos) [] [] cpos) (tBM0 K T r to) := by
  subst hK; exact pe_bm0 pa slot hty hm ho hbase hline
end

/-- a def of the module that may let an exception out -/
structure CalX (P : Program) (w : World) (K : PySem.W.Frag) (mg : Str → Option Value) (base : Heap) (k : Nat) (x : Str) (sp : Sp) : Prop where
  ex : ∃ (f : Addr) (fd : FuncData) (ps : List Str), FnOk P w K mg base (L2.CX P w) k f fd ps sp ∧ mg x = some (.ref f) ∧ PySem.W.keepIn K (.ref f) = true ∧ Binds K fd ps []
section
variable {X : Cx} {k j : Nat} {x : Str} {sp : Sp} {p pos : Pos} {e : Expr} {es : List Expr} {t : TA} {E : L2.St → XK}
theorem pe_cX (c : CalX X.prog X.w X.K X.mg X.base k x sp) (hr : Room j X.A) (hk : k ≤ j) (hg : Gl X x) (hx : ∀ σ, PassesAt (L2.CX X.prog X.w) X σ (E σ)) (ha : PA X (e :: es) t)
    (hdb : (x == ("__debug__" : Str)) = false := by decide) (he : starEach (e :: es) X.env = (false, eval e X.env) :: starEach es X.env := by rfl) (hpl : (backTo pos (starEach es X.env)).any (·.1) = false := by rfl) :
    PE X (.Call (.Name x p) (e :: es) [] pos) (tCallS sp E t) := by
  obtain ⟨f, fd, ps, F, hm, kp, b⟩ := c.ex
  exact pe_callS F (hr.mono hk) hg hm kp b hx ha hdb he hpl
end
section
variable {P : Program} {w : World} {K : PySem.W.Frag} {mg : Str → Option Value} {base : Heap}
/-- a def by its body, which may let an exception out -/
theorem calX {x : Str} {st : Stmt} {f : Addr} {fd : FuncData} {N ps : List Str} {k : Nat} {sp : Sp} (F : C8.Def K mg x st f fd) (b : Binds K fd ps []) (S : FnScope N ps (C8.fnScope st)) (len : ∀ vs H Q E, sp vs H Q E → vs.length = ps.length)
    (hbody : ∀ (cdv : Value) (A : Around) (outer : List Env) (s : Shared) (H : Hp) (vs : List V) (Q : VK) (E : XK), Room k (A.deeper (envOfC x (C8.fnScope st) s.heap.objs.size f cdv)) → sp vs H Q E →
      ∃ t, PSs (cxOf (L2.CX P w) P w K mg base N x (C8.fnScope st) f cdv A outer s H E) (C8.fnBody st) t ∧ t { nx := fun _ H' => Q .non H', rt := Q } (L2.start N vs) H) : CalX P w K mg base (k + 1) x sp := by
  refine ⟨f, fd, ps, ?_, F.mgf, F.kp, b⟩
  obtain ⟨oc, od, dV, kV, doc, pm, an, cdv, ct, osl, rfl, lk, hcd⟩ := F.fn.ex
  exact fn_of lk hcd S len fun A outer s H vs Q E hr hsp => hbody cdv A outer s H vs Q E hr hsp
end

/-! ### list.count of flat items -/
section
variable {X : Cx}
theorem count_eqU {x : V} : ∀ {xs : List V} {us : List Value}, Vals xs us → xs.all flatV = true → us.countP (eqU x) = xs.countP fun y => eqV y x
  | _, _, .nil, _ => rfl
  | y :: xs, u :: us, .cons r t, f => by
    rw [List.all_cons, Bool.and_eq_true] at f
    rw [List.countP_cons, List.countP_cons, eqU_of r f.1, count_eqU t f.2]
def rCntV (K : PySem.W.Frag) : V → List V → Hp → VK → Prop := fun x xs H Q => ∃ (p : Addr) (ys : List V) (y : V), x = .ref p ∧ xs = [y] ∧ SqL K H p ys ∧ flatV y = true ∧ ys.all flatV = true ∧ Q (.int ((ys.countP fun z => eqV z y : Nat) : Int)) H
theorem mt_lcountV : MtR X "list.count" (rCntV X.K) := by
  intro pins s σ H x xs v us Q I rx rxs h
  obtain ⟨p, ys, y, rfl, rfl, hs, fy, fys, q⟩ := h
  cases rx
  obtain ⟨u, rfl, ru⟩ := rxs.one
  obtain ⟨its, rv, ⟨⟨cls, dd, data, sl⟩, n, ho, hc, hdn, hd⟩, hlen⟩ := I.list hs
  simp only at hc hd
  subst hc hd
  refine call_meets PySem.F.slot_list_count ⟨_, ho, rfl⟩ PySem.F.entry_list_count (PySem.F.args_list_count_2 _ _)
    (SeqAt.list_countAt p its.toArray n dd sl u (eqU y)) ⟨ho, fun u' hu' => mem_eqAt ru fy rv fys u' (by simpa using hu'), ?_⟩
  have ec : its.toArray.toList.countP (eqU y) = ys.countP fun z => eqV z y := count_eqU rv fys
  refine ⟨.int (ys.countP fun z => eqV z y : Nat), H, I.tok _, ⟨s.toks, ?_⟩, q⟩
  show Value.int ((its.toArray.toList.countP (eqU y) : Nat) : Int) s.toks = Value.int ((ys.countP fun z => eqV z y : Nat) : Int) s.toks
  rw [ec]
end

/-! ### isinstance of a caught error, its class told by the reading -/
def rIsE2 (K : PySem.W.Frag) (cls : Value) (d : Option Addr) (a : Addr) : List V → Hp → VK → Prop := fun xs H Q => ∃ (D : Addr) (c : V) (cv : Value) (b : Bool), cls = .ref D ∧ d = none ∧ ExcC K D ∧ xs = [.ref a, c] ∧ (∀ u, RelV c u → u = cv) ∧ PySem.W.kitOne K (.ref D) cv = some b ∧ Q (.bl b) H
theorem call_isE2 {X : Cx} {a : Addr} {cls : Value} {d : Option Addr} {oe : Obj} {pn : List (Addr × Obj)} (hz : Zc cls d oe) (hf : ∃ vs, oe.data = .fields vs) : CallR (X.suite a ((a, oe) :: pn)) (.builtin "isinstance") (rIsE2 X.K cls d a) := by
  intro pins s σ H xs us Q I r h
  obtain ⟨D, c, cv, b, rfl, rfl, C, e, hcv, hk, q⟩ := h
  exact call_isE C hz hf pins s σ H xs us Q I r ⟨c, cv, b, e, hcv, hk, q⟩

/-- where an exception is, the slots are as many as the names -/
theorem takes_len {X : Cx} {W : WX} (t : Takes X W) : Takes X (fun c d σ H => σ.length = X.N.length → W c d σ H) := fun u s' x => by
  obtain ⟨a, B, sI, pins, σ, H, cls, d, e, I, x1, x2, x3, x4, x5, x6, q⟩ := x
  exact t u s' ⟨a, B, sI, pins, σ, H, cls, d, e, I, x1, x2, x3, x4, x5, x6, q I.len⟩

/-! ### built-ins by name -/
def rLen (K : PySem.W.Frag) : List V → Hp → VK → Prop := fun xs H Q => ∃ p ys, xs = [.ref p] ∧ (SqL K H p ys ∨ SqT K H p ys) ∧ Q (.int ys.length) H
theorem call_len1 {X : Cx} : CallR X (.builtin "len") (rLen X.K) := call_len_seq
def rListOf (K : PySem.W.Frag) : List V → Hp → VK → Prop := fun xs H Q => ∃ p ys, xs = [.ref p] ∧ (SqL K H p ys ∨ SqT K H p ys) ∧ ∀ l, H l = none → Q (.ref l) (upd H l (.lst ys))
theorem call_list1 {X : Cx} : CallR X (.type "list") (rListOf X.K) := call_list_of
def rMax2 : List V → Hp → VK → Prop := fun xs H Q => ∃ i j, xs = [.int i, .int j] ∧ Q (.int (if j > i then j else i)) H
theorem call_max1 {X : Cx} (hc : X.calm = true) : CallR X (.builtin "max") rMax2 := call_max2 hc
def rMin2 : List V → Hp → VK → Prop := fun xs H Q => ∃ i j, xs = [.int i, .int j] ∧ Q (.int (if j < i then j else i)) H
theorem call_min1 {X : Cx} (hc : X.calm = true) : CallR X (.builtin "min") rMin2 := call_min2 hc
def rInt1 : List V → Hp → VK → Prop := fun xs H Q => (∃ i, xs = [.int i] ∧ Q (.int i) H) ∨ ∃ k, xs = [.bl k] ∧ Q (.int (if k then 1 else 0)) H
theorem call_intB {X : Cx} : CallR X (.type "int") rInt1 := call_int1

def rIsN : R2 := fun x y H Q => y = .non ∧ Q (.bl (decide (x = .non))) H
theorem op_isN1 {X : Cx} : OpR X (compareOp .Is) rIsN := op_isN
def rNotN : R2 := fun x y H Q => y = .non ∧ Q (.bl (!decide (x = .non))) H
theorem op_notN1 {X : Cx} : OpR X (compareOp .IsNot) rNotN := op_notN

/-! ### steps -/
section
variable {σ : L2.St} {H : Hp} {Q : VK} {QB : Bool → Hp → Prop} {QA : List V → Hp → Prop} {i : Nat} {v x y : V} {ta tb tc te : TE} {t u : TT} {ts us : TS} {D : Ends} {n m : Int} {K : PySem.W.Frag} {r r' r2 : R2}
theorem g_var (h : σ[i]? = some (some v)) (q : Q v H) : tVar i σ H Q := ⟨v, h, q⟩
theorem g_c (q : Q v H) : tC v σ H Q := q
theorem g_op (h : ta σ H fun x H1 => tb σ H1 fun y H2 => r x y H2 Q) : tOp r ta tb σ H Q := h
theorem g_un {r : V → Hp → VK → Prop} (h : ta σ H fun x H1 => r x H1 Q) : tUn r ta σ H Q := h
theorem g_I0 {g : Int → Int → V} (q : Q (g n m) H) : rI0 g (.int n) (.int m) H Q := ⟨n, m, rfl, rfl, q⟩
theorem g_I {C : Int → Int → Prop} {g : Int → Int → V} (c : C n m) (q : Q (g n m) H) : rI C g (.int n) (.int m) H Q := ⟨n, m, rfl, rfl, c, q⟩
theorem g_U {g : Int → V} (q : Q (g n) H) : rU g (.int n) H Q := ⟨n, rfl, q⟩
theorem g_eqI (q : Q (.bl (decide (n = m))) H) : rEq (.int n) (.int m) H Q := ⟨rfl, by
  have e : decide (V.int n = V.int m) = decide (n = m) := by by_cases h : n = m <;> simp [h]
  rw [e]; exact q⟩
theorem g_neI (q : Q (.bl (!decide (n = m))) H) : rNe (.int n) (.int m) H Q := ⟨rfl, by
  have e : decide (V.int n = V.int m) = decide (n = m) := by by_cases h : n = m <;> simp [h]
  rw [e]; exact q⟩
theorem g_eqS {a b : Str} (q : Q (.bl (decide (a = b))) H) : rEq (.str a) (.str b) H Q := ⟨rfl, by
  have e : decide (V.str a = V.str b) = decide (a = b) := by by_cases h : a = b <;> simp [h]
  rw [e]; exact q⟩
theorem g_neS {a b : Str} (q : Q (.bl (!decide (a = b))) H) : rNe (.str a) (.str b) H Q := ⟨rfl, by
  have e : decide (V.str a = V.str b) = decide (a = b) := by by_cases h : a = b <;> simp [h]
  rw [e]; exact q⟩
theorem g_eqB {a b : Bool} (q : Q (.bl (a == b)) H) : rEq (.bl a) (.bl b) H Q := ⟨rfl, by
  have e : decide (V.bl a = V.bl b) = (a == b) := by cases a <;> cases b <;> rfl
  rw [e]; exact q⟩
theorem g_neB {a b : Bool} (q : Q (.bl (a != b)) H) : rNe (.bl a) (.bl b) H Q := ⟨rfl, by
  have e : (!decide (V.bl a = V.bl b)) = (a != b) := by cases a <;> cases b <;> rfl
  rw [e]; exact q⟩
theorem g_isN (q : Q (.bl (decide (x = .non))) H) : rIsN x .non H Q := ⟨rfl, q⟩
theorem g_notN (q : Q (.bl (!decide (x = .non))) H) : rNotN x .non H Q := ⟨rfl, q⟩
theorem g_test (h : te σ H fun x H' => ∃ k, x = .bl k ∧ QB k H') : tTest te σ H QB := h
theorem g_tB (h : te σ H fun x H' => ∃ k, x = .bl k ∧ QB k H') : tB te σ H QB := h
theorem g_bl {b : Bool} (q : QB b H) : ∃ k, V.bl b = .bl k ∧ QB k H := ⟨b, rfl, q⟩
theorem g_and (h : t σ H fun c H1 => if c = true then u σ H1 QB else QB false H1) : tAnd t u σ H QB := h
theorem g_or (h : t σ H fun c H1 => if c = true then QB true H1 else u σ H1 QB) : tOr t u σ H QB := h
theorem g_not (h : t σ H fun c H1 => QB (!c) H1) : tNot t σ H QB := h
theorem g_andV (h : ta σ H fun x H1 => ∃ c, x = .bl c ∧ if c = true then tb σ H1 Q else Q (.bl false) H1) : tAndV ta tb σ H Q := h
theorem g_orV (h : ta σ H fun x H1 => ∃ c, x = .bl c ∧ if c = true then Q (.bl true) H1 else tb σ H1 Q) : tOrV ta tb σ H Q := h
theorem g_notV (h : ta σ H fun x H1 => ∃ c, x = .bl c ∧ Q (.bl (!c)) H1) : tNotV ta σ H Q := h
theorem g_blI {b : Bool} {p : Bool → Prop} (q : p b) : ∃ k, V.bl b = .bl k ∧ p k := ⟨b, rfl, q⟩
theorem g_if (h : t σ H fun c H1 => if c = true then ta σ H1 Q else tb σ H1 Q) : tIf t ta tb σ H Q := h
theorem g_chain (h : ta σ H fun x H1 => tb σ H1 fun y H2 => r x y H2 fun z H3 => ∃ k, z = .bl k ∧ (if k = true then tc σ H3 fun w' H4 => r' y w' H4 Q else Q (.bl false) H3)) : tChain r r' ta tb tc σ H Q := h
theorem g_chain3 {td : TE} (h : ta σ H fun x H1 => tb σ H1 fun y H2 => r x y H2 fun z H3 => ∃ k, z = .bl k ∧
  (if k = true then tc σ H3 fun w' H4 => r' y w' H4 fun z2 H5 => ∃ k2, z2 = .bl k2 ∧ (if k2 = true then td σ H5 fun w2 H6 => r2 w' w2 H6 Q else Q (.bl false) H5) else Q (.bl false) H3)) : tChain3 r r' r2 ta tb tc td σ H Q := h
theorem g_nil (q : QA [] H) : tNil σ H QA := q
theorem g_cons {tr : TA} (h : ta σ H fun x H1 => tr σ H1 fun xs H2 => QA (x :: xs) H2) : tCons ta tr σ H QA := h
theorem g_tup {tr : TA} (h : tr σ H fun xs H1 => xs.length ≤ sizeLine ∧ ∀ p, H1 p = none → Q (.ref p) (upd H1 p (.tup xs))) : tTup tr σ H Q := h
theorem g_lst {tr : TA} (h : tr σ H fun xs H1 => xs.length ≤ sizeLine ∧ ∀ p, H1 p = none → Q (.ref p) (upd H1 p (.lst xs))) : tLst tr σ H Q := h
theorem g_CB {r : List V → Hp → VK → Prop} {tr : TA} (h : tr σ H fun vs H1 => r vs H1 Q) : tCB r tr σ H Q := h
theorem g_call {sp : Sp} {dvs : List V} {E : XK} {tr : TA} (h : tr σ H fun vs H1 => sp (vs ++ dvs) H1 Q E) : tCall sp dvs E tr σ H Q := h
theorem g_callS {sp : Sp} {E : L2.St → XK} {tr : TA} (h : tr σ H fun vs H1 => sp vs H1 Q (E σ)) : tCallS sp E tr σ H Q := h
theorem g_bm {T : String} {r : V → List V → Hp → VK → Prop} {tr : TA} (h : ta σ H fun x H1 => tyV K T x H1 ∧ tr σ H1 fun xs H2 => r x xs H2 Q) : tBM K T r ta tr σ H Q := h
theorem g_bm0 {T : String} {r : V → List V → Hp → VK → Prop} (h : ta σ H fun x H1 => tyV K T x H1 ∧ r x [] H1 Q) : tBM0 K T r ta σ H Q := h
theorem g_sl {r : V → Option Int → Option Int → Hp → VK → Prop} {tl th : TO} (h : te σ H fun x H1 => tl σ H1 fun l H2 => th σ H2 fun u H3 => r x l u H3 Q) : tSl r te tl th σ H Q := h
theorem g_part {QO : Option Int → Hp → Prop} (h : te σ H fun x H1 => ∃ i, x = .int i ∧ QO (some i) H1) : tPart te σ H QO := h
theorem g_part1 {p : Int → Prop} (h : p n) : ∃ i, V.int n = .int i ∧ p i := ⟨n, rfl, h⟩
theorem g_noPart {QO : Option Int → Hp → Prop} (h : QO none H) : tNoPart σ H QO := h
-- statements
theorem g_seq {a : L2.St → Hp → Prop} {b : VK} {c d : L2.St → Hp → Prop} (h : ts ⟨us ⟨a, b, c, d⟩, b, c, d⟩ σ H) : tSeq ts us ⟨a, b, c, d⟩ σ H := h
theorem g_fit {xs : List V} {R : Addr → Prop} (hl : Nat.ble xs.length 1000 = true) (q : ∀ p, H p = none → R p) : xs.length ≤ sizeLine ∧ ∀ p, H p = none → R p := ⟨Nat.le_trans (Nat.le_of_ble_eq_true hl) (by decide), q⟩
theorem g_next (h : D.nx σ H) : tNext D σ H := h
theorem g_asg {g : TG} (h : te σ H fun x H1 => g x σ H1 D.nx) : tAsg te g D σ H := h
theorem g_name {Qg : L2.St → Hp → Prop} (h : Qg (σ.set i (some v)) H) : gName i v σ H Qg := h
theorem g_sub {to ti : TE} {t : TSet} {Qg : L2.St → Hp → Prop} (h : to σ H fun o H1 => ti σ H1 fun i H2 => t o i v H2 fun H3 => Qg σ H3) : gSub to ti t v σ H Qg := h
theorem g_gnil {Qg : L2.St → Hp → Prop} (h : Qg σ H) : gNil [] σ H Qg := ⟨rfl, h⟩
theorem g_gcons {tg : TG} {ug : TGs} {vs : List V} {Qg : L2.St → Hp → Prop} (h : tg v σ H fun σ' H' => ug vs σ' H' Qg) : gCons tg ug (v :: vs) σ H Qg := ⟨v, vs, rfl, h⟩
theorem g_drop (h : te σ H fun _ H1 => D.nx σ H1) : tDrop te D σ H := h
theorem g_ret (h : te σ H D.rt) : tRet te D σ H := h
theorem g_retN (h : D.rt .non H) : tRetN D σ H := h
theorem g_brk (h : D.bk σ H) : tBreak D σ H := h
theorem g_cont (h : D.ct σ H) : tCont D σ H := h
theorem g_ifS (h : t σ H fun b H1 => if b = true then ts D σ H1 else us D σ H1) : tIfS t ts us D σ H := h
theorem g_nx {a : L2.St → Hp → Prop} {b : VK} {c d : L2.St → Hp → Prop} (h : a σ H) : Ends.nx ⟨a, b, c, d⟩ σ H := h
theorem g_bk {a : L2.St → Hp → Prop} {b : VK} {c d : L2.St → Hp → Prop} (h : c σ H) : Ends.bk ⟨a, b, c, d⟩ σ H := h
theorem g_ct {a : L2.St → Hp → Prop} {b : VK} {c d : L2.St → Hp → Prop} (h : d σ H) : Ends.ct ⟨a, b, c, d⟩ σ H := h
theorem g_rt {a : L2.St → Hp → Prop} {b : VK} {c d : L2.St → Hp → Prop} (h : b v H) : Ends.rt ⟨a, b, c, d⟩ v H := h
theorem g_rng1 {tr : TA} {R : It → Hp → Prop} (h : tr σ H fun vs H1 => ∃ j : Int, vs = [.int j] ∧ -(2 ^ 62) ≤ j ∧ j < 2 ^ 62 ∧ R (Itr 0 j.toNat) H1) : iRng1 tr σ H R := h
theorem g_rng2 {tr : TA} {R : It → Hp → Prop} (h : tr σ H fun vs H1 => ∃ i j : Int, vs = [.int i, .int j] ∧ (-(2 ^ 62) ≤ i ∧ i < 2 ^ 62 ∧ -(2 ^ 62) ≤ j ∧ j < 2 ^ 62) ∧ R (Itr i (j - i).toNat) H1) : iRng2 tr σ H R := h
theorem g_iList {R : It → Hp → Prop} (h : te σ H fun x H1 => ∃ a, x = .ref a ∧ (∃ xs, SqL K H1 a xs) ∧ R (Itl K a) H1) : iList K te σ H R := h
theorem g_iTup {R : It → Hp → Prop} (h : te σ H fun x H1 => ∃ a, x = .ref a ∧ (∃ xs, SqT K H1 a xs) ∧ R (Itt K a) H1) : iTup K te σ H R := h
def ForEnd (g : TG) (tb : TS) (a : L2.St → Hp → Prop) (b : VK) (σ : L2.St) (J : It) (H1 : Hp) : Prop := ∃ W : Nat → Nat → L2.St → Hp → Prop, (∃ m, W 0 m σ H1) ∧ ∀ i m σ H, W i m σ H →
  (J.stop i H ∧ a σ H) ∨ (J.go i H ∧ ∃ N : L2.St → Hp → Prop, (∀ σ' H', N σ' H' → ∃ m', m' < m ∧ W (i + 1) m' σ' H') ∧ ∀ x H', J.yld i H x H' → g x σ H' fun σ2 H2 => tb ⟨N, b, a, N⟩ σ2 H2)
theorem g_for {a : L2.St → Hp → Prop} {b : VK} {c d : L2.St → Hp → Prop} {wi : TI} {g : TG} {tb : TS} (h : wi σ H (ForEnd g tb a b σ)) : tFor wi g tb ⟨a, b, c, d⟩ σ H := h
theorem w_list {a : L2.St → Hp → Prop} {b : VK} {g : TG} {tb : TS} {p : Addr} {xs : List V} (Pv : Nat → L2.St → Hp → Prop) (h0 : Pv 0 σ H) (hl : ∀ i σ H, i ≤ xs.length → Pv i σ H → SqL K H p xs)
    (hs : ∀ i x σ H, xs[i]? = some x → Pv i σ H → g x σ H fun σ2 H2 => tb ⟨Pv (i + 1), b, a, Pv (i + 1)⟩ σ2 H2) (hd : ∀ σ H, Pv xs.length σ H → a σ H) : ∃ q, V.ref p = .ref q ∧ (∃ xs, SqL K H q xs) ∧ ForEnd g tb a b σ (Itl K q) H :=
  ⟨p, rfl, ⟨xs, hl 0 σ H (Nat.zero_le _) h0⟩, for_list (D := ⟨a, b, fun _ _ => False, fun _ _ => False⟩) Pv h0 hl hs hd⟩
theorem w_tup {a : L2.St → Hp → Prop} {b : VK} {g : TG} {tb : TS} {p : Addr} {xs : List V} (Pv : Nat → L2.St → Hp → Prop) (h0 : Pv 0 σ H) (hl : ∀ i σ H, i ≤ xs.length → Pv i σ H → SqT K H p xs)
    (hs : ∀ i x σ H, xs[i]? = some x → Pv i σ H → g x σ H fun σ2 H2 => tb ⟨Pv (i + 1), b, a, Pv (i + 1)⟩ σ2 H2) (hd : ∀ σ H, Pv xs.length σ H → a σ H) : ∃ q, V.ref p = .ref q ∧ (∃ xs, SqT K H q xs) ∧ ForEnd g tb a b σ (Itt K q) H :=
  ⟨p, rfl, ⟨xs, hl 0 σ H (Nat.zero_le _) h0⟩, for_tup (D := ⟨a, b, fun _ _ => False, fun _ _ => False⟩) Pv h0 hl hs hd⟩
/-- range(n) -/
theorem w_range {a : L2.St → Hp → Prop} {b : VK} {g : TG} {tb : TS} {n : Int} (h1 : -(2 ^ 62) ≤ n) (h2 : n < 2 ^ 62) (Pv : Nat → L2.St → Hp → Prop) (h0 : Pv 0 σ H)
    (hs : ∀ i σ H, i < n.toNat → Pv i σ H → g (.int i) σ H fun σ2 H2 => tb ⟨Pv (i + 1), b, a, Pv (i + 1)⟩ σ2 H2) (hd : ∀ σ H, Pv n.toNat σ H → a σ H) :
    ∃ j : Int, [V.int n] = [.int j] ∧ -(2 ^ 62) ≤ j ∧ j < 2 ^ 62 ∧ ForEnd g tb a b σ (Itr 0 j.toNat) H :=
  ⟨n, rfl, h1, h2, for_range (D := ⟨a, b, fun _ _ => False, fun _ _ => False⟩) Pv h0 (fun i σ H hi p => by have q := hs i σ H hi p; rw [Int.zero_add]; exact q) hd⟩
theorem w_while {a : L2.St → Hp → Prop} {b : VK} {c d : L2.St → Hp → Prop} {tc : TT} {tb : TS} (Pv : L2.St → Hp → Prop) (μ : L2.St → Hp → Nat) (h0 : Pv σ H)
    (hs : ∀ σ H, Pv σ H → tc σ H fun b' H1 => if b' = true then tb ⟨fun σ' H' => Pv σ' H' ∧ μ σ' H' < μ σ H, b, a, fun σ' H' => Pv σ' H' ∧ μ σ' H' < μ σ H⟩ σ H1 else a σ H1)
    (mono : ∀ σ H Q Q', (∀ b H1, Q b H1 → Q' b H1) → tc σ H Q → tc σ H Q') : tWhile tc tb ⟨a, b, c, d⟩ σ H := while_by Pv μ h0 hs mono
theorem g_itT {b : Bool} {A B : Prop} (h : b = true) (q : A) : if b = true then A else B := by rw [h]; exact iteT q
theorem g_itF {b : Bool} {A B : Prop} (h : b = false) (q : B) : if b = true then A else B := by rw [h]; exact iteF q
theorem g_ite {c : Prop} [Decidable c] {A B : Prop} (h1 : c → A) (h2 : ¬ c → B) : if decide c = true then A else B := by
  by_cases h : c
  · rw [decide_eq_true h]; exact iteT (h1 h)
  · rw [decide_eq_false h]; exact iteF (h2 h)
theorem g_iteN {c : Prop} [Decidable c] {A B : Prop} (h1 : ¬ c → A) (h2 : c → B) : if (!decide c) = true then A else B := by
  by_cases h : c
  · rw [decide_eq_true h]; exact iteF (h2 h)
  · rw [decide_eq_false h]; exact iteT (h1 h)
theorem g_len {p : Addr} {xs : List V} (h : SqL K H p xs ∨ SqT K H p xs) (q : Q (.int xs.length) H) : rLen K [.ref p] H Q := ⟨p, xs, rfl, h, q⟩
theorem g_ixL {p : Addr} {xs : List V} (h : SqL K H p xs) (ha : atI xs n = some v) (q : Q v H) : rIxL K (.ref p) (.int n) H Q := ⟨p, xs, n, v, rfl, rfl, h, ha, q⟩
theorem g_ixT {p : Addr} {xs : List V} (h : SqT K H p xs) (ha : atI xs n = some v) (q : Q v H) : rIxT K (.ref p) (.int n) H Q := ⟨p, xs, n, v, rfl, rfl, h, ha, q⟩
theorem g_setL {p : Addr} {xs : List V} {j : Nat} {q : Hp → Prop} (h : H p = some (.lst xs)) (hj : ixN xs.length n = some j) (k : q (upd H p (.lst (xs.set j v)))) : rSetL (.ref p) (.int n) v H q := ⟨p, xs, n, j, rfl, rfl, h, hj, k⟩
theorem mulW_small {i j : Int} (h1 : 0 ≤ i) (h2 : i < 2147483648) (h3 : 0 ≤ j) (h4 : j < 2147483648) : CMulW i j := wide_mul (a := 31) (b := 31) (by show _ < 2147483648; omega) (by show _ < 2147483648; omega) (by decide) (by decide) (by decide)
theorem divW_small {i j : Int} (h1 : 0 < j) (h2 : j < 10 ^ 38) : CDivW i j := wide_div (b := 127) h1 (by show _ < (2 : Nat) ^ 127; omega) (by decide) (by decide)
theorem g_append {p : Addr} {xs : List V} (h : H p = some (.lst xs)) (hl : xs.length < 100000) (q : Q .non (upd H p (.lst (xs ++ [v])))) : rAppend (.ref p) [v] H Q := ⟨p, xs, v, rfl, rfl, h, Nat.lt_of_lt_of_le hl (by decide), q⟩
theorem g_tyL {p : Addr} {xs : List V} {R : Prop} (h : H p = some (.lst xs)) (q : R) : tyV K "list" (.ref p) H ∧ R := ⟨.inl ⟨rfl, _, SqL.of h⟩, q⟩
theorem g_listOf {p : Addr} {xs : List V} (h : SqL K H p xs) (q : ∀ l, H l = none → Q (.ref l) (upd H l (.lst xs))) : rListOf K [.ref p] H Q := ⟨p, xs, rfl, .inl h, q⟩
theorem g_listOfT {p : Addr} {xs : List V} (h : SqT K H p xs) (q : ∀ l, H l = none → Q (.ref l) (upd H l (.lst xs))) : rListOf K [.ref p] H Q := ⟨p, xs, rfl, .inr h, q⟩
theorem g_int1B {b : Bool} (q : Q (.int (if b then 1 else 0)) H) : rInt1 [.bl b] H Q := .inr ⟨b, rfl, q⟩
theorem g_gtup {p : Addr} {xs : List V} {k : Nat} {tg : TGs} {Qg : L2.St → Hp → Prop} (h : SqT K H p xs) (hl : xs.length = k) (q : tg xs σ H Qg) : gTup K k tg (.ref p) σ H Qg := ⟨p, xs, rfl, h, hl, q⟩
theorem g_isi {c : V} {tv uv : Value} {b : Bool} (h1 : ClsV c uv) (h2 : TyX K H x tv) (h3 : PySem.W.kitOne K tv uv = some b) (q : Q (.bl b) H) : rIsi K [x, c] H Q := ⟨x, c, tv, uv, b, rfl, h1, h2, h3, q⟩
theorem g_max2 (q : Q (.int (if m > n then m else n)) H) : rMax2 [.int n, .int m] H Q := ⟨n, m, rfl, q⟩
theorem g_min2 (q : Q (.int (if m < n then m else n)) H) : rMin2 [.int n, .int m] H Q := ⟨n, m, rfl, q⟩
end

/-! ### heaps in which the list at S changes -/
def Frm (S : Addr) (H H' : Hp) : Prop := ∀ b o, b ≠ S → H b = some o → H' b = some o
theorem Frm.refl (S : Addr) (H : Hp) : Frm S H H := fun _ _ _ h => h
theorem Frm.trans {S : Addr} {H H1 H2 : Hp} (a : Frm S H H1) (b : Frm S H1 H2) : Frm S H H2 := fun c o n h => b c o n (a c o n h)
theorem Frm.of {S : Addr} {H H' : Hp} (e : Same H H') : Frm S H H' := fun b o _ h => e b o h
theorem Frm.set {S : Addr} {H : Hp} {o : HO} : Frm S H (upd H S o) := fun b u n h => by rw [upd_ne n]; exact h
theorem same_new {H : Hp} {p : Addr} {o : HO} (h : H p = none) : Same H (upd H p o) := fun b u e => by rw [upd_ne (ne_of_none e h)]; exact e
/-- what may be read at a, whatever becomes of S -/
def ScL (K : PySem.W.Frag) (S : Addr) (H : Hp) (a : Addr) (xs : List V) : Prop := (a ≠ S ∧ Rd H a (.lst xs)) ∨ ∀ H', SqL K H' a xs
theorem ScL.sq {K : PySem.W.Frag} {S : Addr} {H : Hp} {a : Addr} {xs : List V} (h : ScL K S H a xs) : SqL K H a xs := by
  rcases h with ⟨_, h⟩ | h
  · exact .inl h
  · exact h H
theorem ScL.frm {K : PySem.W.Frag} {S : Addr} {H H' : Hp} {a : Addr} {xs : List V} (h : ScL K S H a xs) (f : Frm S H H') : ScL K S H' a xs := by
  rcases h with ⟨n, h⟩ | h
  · refine .inl ⟨n, ?_⟩
    rcases h with h | ⟨o, h⟩
    · exact .inl (f _ _ n h)
    · exact .inr ⟨o, f _ _ n h⟩
  · exact .inr h
theorem ScL.of {K : PySem.W.Frag} {S : Addr} {H H' : Hp} {a : Addr} {xs : List V} (h : SqL K H a xs) (e : Same H H') (n : H S = none) : ScL K S H' a xs := by
  rcases h with h | h
  · rcases h with h | ⟨o, h⟩
    · exact .inl ⟨ne_of_none h n, .inl (e _ _ h)⟩
    · exact .inl ⟨ne_of_none h n, .inr ⟨o, e _ _ h⟩⟩
  · exact .inr fun H' => .inr h
/-- the drawing's state at S; what B tracks stands as it stood -/
def Dst (K : PySem.W.Frag) (B H : Hp) (S : Addr) : Prop := ∃ (sc : Addr) (ns : List Int) (c m r : Int), H S = some (.lst [.ref sc, .int c, .int m, .int r]) ∧ ScL K S B sc (ns.map V.int) ∧ Frm S B H ∧ ns.length ≤ 63 ∧ 0 ≤ c ∧ 0 ≤ m ∧ m < 2147483647
theorem Dst.same {K : PySem.W.Frag} {B H H' : Hp} {S : Addr} (d : Dst K B H S) (e : Same H H') : Dst K B H' S := by
  obtain ⟨sc, ns, c, m, r, h1, h2, h3, h4⟩ := d
  exact ⟨sc, ns, c, m, r, e _ _ h1, h2, h3.trans (.of e), h4⟩
theorem Dst.has {K : PySem.W.Frag} {B H : Hp} {S : Addr} (d : Dst K B H S) : H S ≠ none := by
  obtain ⟨sc, ns, c, m, r, h1, _⟩ := d
  rw [h1]; exact fun z => nomatch z
theorem Dst.ne {K : PySem.W.Frag} {B H : Hp} {S p : Addr} (d : Dst K B H S) (h : H p = none) : p ≠ S := fun e => d.has (e ▸ h)
theorem Dst.fresh {K : PySem.W.Frag} {B H : Hp} {S p : Addr} (d : Dst K B H S) (h : H p = none) : B p = none := by
  have n := d.ne h
  obtain ⟨sc, ns, c, m, r, h1, h2, h3, h4⟩ := d
  cases e : B p with
  | none => rfl
  | some o => rw [h3 p o n e] at h; cases h
/-- a thing that B does not know changes -/
theorem Dst.mut {K : PySem.W.Frag} {B H : Hp} {S p : Addr} {o : HO} (d : Dst K B H S) (n : p ≠ S) (h : B p = none) : Dst K B (upd H p o) S := by
  obtain ⟨sc, ns, c, m, r, h1, h2, h3, h4⟩ := d
  refine ⟨sc, ns, c, m, r, ?_, h2, fun b u hb e => ?_, h4⟩
  · rw [upd_ne n.symm]; exact h1
  · rw [upd_ne (ne_of_none e h)]; exact h3 b u hb e
theorem Frm.mut {S p : Addr} {H H' : Hp} {o : HO} (f : Frm S H H') (h : H p = none) : Frm S H (upd H' p o) := fun b u n e => by
  rw [upd_ne (ne_of_none e h)]; exact f b u n e
theorem Frm.new {S p : Addr} {H : Hp} {o : HO} (h : H p = none) : Frm S H (upd H p o) := .of (same_new h)
theorem Frm.back {S p : Addr} {H H' : Hp} (f : Frm S H H') (n : p ≠ S) (h : H' p = none) : H p = none := by
  cases e : H p with
  | none => rfl
  | some o => rw [f p o n e] at h; cases h
theorem Same.back {H H' : Hp} {p : Addr} (f : Same H H') (h : H' p = none) : H p = none := by
  cases e : H p with
  | none => rfl
  | some o => rw [f p o e] at h; cases h
theorem Same.mut {H H' : Hp} {p : Addr} {o : HO} (f : Same H H') (h : H p = none) : Same H (upd H' p o) := fun b u e => by
  rw [upd_ne (ne_of_none e h)]; exact f b u e
theorem pow_small {i j : Int} (h0 : 0 ≤ j) (h1 : j ≤ 1000) (h2 : i.natAbs < 2 ^ 32) : CPow i j := ⟨h0, by omega, Nat.lt_trans h2 (by decide)⟩
theorem atI_mem {xs : List V} {z : Int} (h0 : 0 ≤ z) (h1 : z < xs.length) : ∃ x, x ∈ xs ∧ atI xs z = some x := by
  have hl : z.toNat < xs.length := by omega
  exact ⟨xs[z.toNat], List.getElem_mem hl, at_of (j := z.toNat) (by omega) (List.getElem?_eq_getElem hl)⟩
theorem map_at {ns : List Int} {i : Nat} {x : V} (h : (ns.map V.int)[i]? = some x) : ∃ n, ns[i]? = some n ∧ x = V.int n := by
  rw [List.getElem?_map] at h
  cases hq : ns[i]? with
  | none => rw [hq] at h; cases h
  | some z => rw [hq] at h; exact ⟨z, rfl, (Option.some.inj h).symm⟩
/-- what stands beside S -/
def Live (S : Addr) (H : Hp) (L : List (Addr × HO)) : Prop := ∀ p ∈ L, p.1 ≠ S ∧ H p.1 = some p.2
theorem Live.nil {S : Addr} {H : Hp} : Live S H [] := fun _ h => (List.not_mem_nil h).elim
theorem Live.frm {S : Addr} {H H' : Hp} {L : List (Addr × HO)} (l : Live S H L) (f : Frm S H H') : Live S H' L := fun p h => ⟨(l p h).1, f _ _ (l p h).1 (l p h).2⟩
theorem Live.cons {S : Addr} {H : Hp} {L : List (Addr × HO)} {a : Addr} {o : HO} (l : Live S H L) (n : a ≠ S) (h : H a = some o) : Live S H ((a, o) :: L) := fun p hp => by
  rcases List.mem_cons.mp hp with e | e
  · subst e; exact ⟨n, h⟩
  · exact l p e
theorem Live.get {S : Addr} {H : Hp} {L : List (Addr × HO)} (l : Live S H L) (i : Nat) {a : Addr} {o : HO} (h : L[i]? = some (a, o)) : H a = some o := (l _ (List.mem_of_getElem? h)).2
theorem Live.ne {S : Addr} {H : Hp} {L : List (Addr × HO)} (l : Live S H L) (i : Nat) {a : Addr} {o : HO} (h : L[i]? = some (a, o)) : a ≠ S := (l _ (List.mem_of_getElem? h)).1
/-- a new object is laid -/
theorem Live.new {S : Addr} {H : Hp} {L : List (Addr × HO)} {p : Addr} {o : HO} (l : Live S H L) (hp : H p = none) (hS : H S ≠ none) : Live S (upd H p o) ((p, o) :: L) :=
  (l.frm (.of (same_new hp))).cons (fun e => hS (e ▸ hp)) upd_same

/-! ### == of data -/
section
variable {K : PySem.W.Frag} {H : Hp} {Q : VK}
theorem dpAll_ints : ∀ ns : List Int, DpAll K H (ns.map V.int) (ns.map PyData.int)
  | [] => .nil
  | n :: ns => .cons (.int n) (dpAll_ints ns)
theorem dp_ints {a : Addr} {ns : List Int} (h : SqL K H a (ns.map V.int)) : Dp K H (.ref a) (.list (ns.map PyData.int)) := .lst h (dpAll_ints ns)
theorem eqvAll_ints : ∀ ns ms : List Int, PyData.eqvAll (ns.map PyData.int) (ms.map PyData.int) = decide (ns = ms)
  | [], [] => by simp [PyData.eqvAll]
  | [], _ :: _ => by simp [PyData.eqvAll]
  | _ :: _, [] => by simp [PyData.eqvAll]
  | n :: ns, m :: ms => by
    have ih := eqvAll_ints ns ms
    simp only [List.map_cons, PyData.eqvAll, ih, PyData.eqv]
    by_cases h1 : n = m <;> by_cases h2 : ns = ms <;> simp [h1, h2]
theorem eqv_ints (ns ms : List Int) : PyData.eqv (.list (ns.map PyData.int)) (.list (ms.map PyData.int)) = decide (ns = ms) := by
  rw [PyData.eqv]; exact eqvAll_ints ns ms
theorem g_eqLI {a b : Addr} {ns ms : List Int} (h1 : SqL K H a (ns.map V.int)) (h2 : SqL K H b (ms.map V.int)) (q : Q (.bl (decide (ns = ms))) H) : rEqD K (.ref a) (.ref b) H Q :=
  ⟨_, _, dp_ints h1, dp_ints h2, PySem.W.ke_shaped_ints ns, PySem.W.ke_shaped_ints ms, by rw [eqv_ints]; exact q⟩
theorem g_neLI {a b : Addr} {ns ms : List Int} (h1 : SqL K H a (ns.map V.int)) (h2 : SqL K H b (ms.map V.int)) (q : Q (.bl (!decide (ns = ms))) H) : rNeD K (.ref a) (.ref b) H Q :=
  ⟨_, _, dp_ints h1, dp_ints h2, PySem.W.ke_shaped_ints ns, PySem.W.ke_shaped_ints ms, by rw [eqv_ints]; exact q⟩
end
section
variable {σ : L2.St} {H : Hp}
/-- a while, by an invariant that bears its measure -/
theorem w_loop {a : L2.St → Hp → Prop} {b : VK} {c d : L2.St → Hp → Prop} {tc : TT} {tb : TS} (Pv : Nat → L2.St → Hp → Prop) (m0 : Nat) (h0 : Pv m0 σ H)
    (hs : ∀ m σ H, Pv m σ H → tc σ H fun b' H1 => if b' = true then ∃ N : L2.St → Hp → Prop, (∀ σ' H', N σ' H' → ∃ m', m' < m ∧ Pv m' σ' H') ∧ tb ⟨N, b, a, N⟩ σ H1 else a σ H1) : tWhile tc tb ⟨a, b, c, d⟩ σ H := ⟨Pv, ⟨m0, h0⟩, hs⟩
end
section
variable {K : PySem.W.Frag} {H : Hp} {Q : VK}
theorem g_slL {a : Addr} {xs : List V} {lo hi : Option Int} (h : SqL K H a xs) (q : ∀ p, H p = none → Q (.ref p) (upd H p (.lst (cutV xs lo hi)))) : rSlL K (.ref a) lo hi H Q := ⟨a, xs, rfl, h, q⟩
theorem cut1 (xs : List V) : cutV xs (some 1) none = xs.drop 1 := by
  unfold cutV
  rw [show (some (1 : Int)) = some ((1 : Nat) : Int) from rfl, HT.sIx_nat, HT.sIx_none]
  cases xs with
  | nil => rfl
  | cons x xs =>
    have e : min 1 (x :: xs).length = 1 := by simp
    rw [e]
    show List.take ((x :: xs).length - 1) xs = xs
    simp
end
theorem tup_same {K : PySem.W.Frag} {H H' : Hp} {a : Addr} {xs : List V} (e : Same H H') (h : SqT K H a xs) : SqT K H' a xs := by
  rcases h with (h | ⟨o, h⟩) | h
  · exact .inl (.inl (e _ _ h))
  · exact .inl (.inr ⟨o, e _ _ h⟩)
  · exact .inr h

/-! ### data: kinds, and as they stand later -/
section
variable {K : PySem.W.Frag} {H H' : Hp} {Q : VK} {σ : L2.St}
theorem ty_list {a : Addr} {xs : List V} (h : SqL K H a xs) : TyX K H (.ref a) (.type "list") := by
  rcases h with (h | ⟨o, h⟩) | h
  · exact .base (.lst h)
  · exact .base (.frz h)
  · obtain ⟨o, items, n, h1, h2, _⟩ := h
    exact .kList h1 h2
theorem ty_tup {a : Addr} {xs : List V} (h : SqT K H a xs) : TyX K H (.ref a) (.type "tuple") := by
  rcases h with (h | ⟨o, h⟩) | h
  · exact .base (.tup h)
  · exact .fTuple h
  · obtain ⟨o, items, n, h1, h2, _⟩ := h
    exact .kTuple h1 h2
theorem list_same {a : Addr} {xs : List V} (e : Same H H') (h : SqL K H a xs) : SqL K H' a xs := e.seq h
mutual
theorem Dp_same (e : Same H H') : ∀ (d : PyData) (v : V), Dp K H v d → Dp K H' v d
  | .none, _, h => by cases h; exact .non
  | .bool b, _, h => by cases h; exact .bl b
  | .int i, _, h => by cases h; exact .int i
  | .str x, _, h => by cases h; exact .str x
  | .list ds, _, h => by
    cases h with
    | lst hs ha => exact .lst (list_same e hs) (DpAll_same e ds _ ha)
  | .tuple ds, _, h => by
    cases h with
    | tup hs ha => exact .tup (tup_same e hs) (DpAll_same e ds _ ha)
  | .dict _, _, h => by cases h
theorem DpAll_same (e : Same H H') : ∀ (ds : List PyData) (vs : List V), DpAll K H vs ds → DpAll K H' vs ds
  | [], _, h => by cases h; exact .nil
  | d :: ds, _, h => by
    cases h with
    | cons h1 h2 => exact .cons (Dp_same e d _ h1) (DpAll_same e ds _ h2)
end
theorem DpAll.len : ∀ {vs : List V} {ds : List PyData}, DpAll K H vs ds → vs.length = ds.length
  | [], [], _ => rfl
  | _ :: _, _ :: _, .cons _ h => by rw [List.length_cons, List.length_cons, DpAll.len h]
theorem DpAll.at : ∀ {vs : List V} {ds : List PyData} {i : Nat} {d : PyData}, DpAll K H vs ds → ds[i]? = some d → ∃ v, vs[i]? = some v ∧ Dp K H v d
  | _, _, 0, d, .cons h _, e => by cases e; exact ⟨_, rfl, h⟩
  | _, _, i + 1, d, .cons _ h, e => DpAll.at (i := i) h e
/-- small data of the four flat kinds, lists and tuples, at most so deep -/
inductive OkD : Nat → PyData → Prop
  | non {n : Nat} : OkD n .none
  | bl {n : Nat} (b : Bool) : OkD n (.bool b)
  | int {n : Nat} (i : Int) : OkD n (.int i)
  | str {n : Nat} (x : Str) : OkD n (.str x)
  | lst {n : Nat} {ds : List PyData} : ds.length ≤ 100000 → (∀ d ∈ ds, OkD n d) → OkD (n + 1) (.list ds)
  | tup {n : Nat} {ds : List PyData} : ds.length ≤ 100000 → (∀ d ∈ ds, OkD n d) → OkD (n + 1) (.tuple ds)
theorem g_isiT {x : V} {tp : Addr} {cs : List V} {t : Value} {us : List Value} {b : Bool} (hT : H tp = some (.tup cs)) (hc : Paired ClsV cs us) (ty : TyX K H x t) (hk : PySem.W.kitAny K t us = some b) (q : Q (.bl b) H) : rIsiT K [x, .ref tp] H Q :=
  ⟨x, tp, cs, t, us, b, rfl, hT, hc, ty, hk, q⟩
/-- t is one of two built-in types, or none of them -/
theorem kit2 {t a b : String} {r1 r2 : Bool} (h1 : kitB t a = some r1) (h2 : kitB t b = some r2) : PySem.W.kitAny K (.type t) [.type a, .type b] = some (r1 || r2) := by
  refine kitAny_cons (kit_ty h1) (fun e => ?_) (fun e => by rw [e]; rfl)
  rw [e]
  exact kitAny_cons (kit_ty h2) (fun e2 => by rw [e2]; rfl) (fun e2 => by rw [e2]; rfl)
theorem g_isiB {x c : V} {tn cn : String} {b : Bool} (h1 : ClsV c (.type cn)) (h2 : TyX K H x (.type tn)) (h3 : kitB tn cn = some b) (q : Q (.bl b) H) : rIsi K [x, c] H Q := ⟨x, c, .type tn, .type cn, b, rfl, h1, h2, kit_ty h3, q⟩
def LcEnd (g : TG) (tt : TT) (te : TE) (vs : List Nat) (σ : L2.St) (Q : VK) (J : It) (H1 : Hp) : Prop := ∀ D, H1 D = none → ∃ W : Nat → Nat → Hp → Prop, (∃ m, W 0 m (upd H1 D (.lst []))) ∧ ∀ i m H, W i m H →
  (J.stop i H ∧ Q (.ref D) H) ∨ (J.go i H ∧ ∃ Nx : Hp → Prop, (∀ H', Nx H' → ∃ m', m' < m ∧ W (i + 1) m' H') ∧ ∀ x H', J.yld i H x H' → g x (wipe σ vs) H' fun σ2 H2 => wipe σ2 vs = wipe σ vs ∧ tt σ2 H2 fun b H3 =>
    if b = true then te σ2 H3 fun y H4 => ∃ acc, H4 D = some (.lst acc) ∧ acc.length < sizeLine ∧ Nx (upd H4 D (.lst (acc ++ [y]))) else Nx H3)
theorem g_lc {wi : TI} {g : TG} {tt : TT} {te : TE} {vs : List Nat} (h : wi σ H (LcEnd g tt te vs σ Q)) : tLc wi g tt te vs σ H Q := h
theorem g_yes {QB : Bool → Hp → Prop} (q : QB true H) : tYes σ H QB := q
theorem w_lcRange {g : TG} {tt : TT} {te : TE} {vs : List Nat} {n : Int} (h1 : -(2 ^ 62) ≤ n) (h2 : n < 2 ^ 62) (Pv : Addr → Nat → Hp → Prop) (h0 : ∀ D, H D = none → Pv D 0 (upd H D (.lst [])))
    (hs : ∀ D i H', H D = none → i < n.toNat → Pv D i H' → g (.int i) (wipe σ vs) H' fun σ2 H2 => wipe σ2 vs = wipe σ vs ∧ tt σ2 H2 fun b H3 =>
      if b = true then te σ2 H3 fun y H4 => ∃ acc, H4 D = some (.lst acc) ∧ acc.length < sizeLine ∧ Pv D (i + 1) (upd H4 D (.lst (acc ++ [y]))) else Pv D (i + 1) H3) (hd : ∀ D H', H D = none → Pv D n.toNat H' → Q (.ref D) H') :
    ∃ j : Int, [V.int n] = [.int j] ∧ -(2 ^ 62) ≤ j ∧ j < 2 ^ 62 ∧ LcEnd g tt te vs σ Q (Itr 0 j.toNat) H :=
  ⟨n, rfl, h1, h2, fun D hD => lc_range (Pv D) (h0 D hD) (fun i H' hi p => by have q := hs D i H' hD hi p; rw [Int.zero_add]; exact q) (fun H' p => hd D H' hD p)⟩
end

/-! ### tables of code objects beside the drawing -/
/-- H without its tables -/
def noT (H : Hp) : Hp := fun b => match H b with
  | some (.tbl _) => none
  | o => o
theorem noT_some {H : Hp} {b : Addr} {o : HO} (h : noT H b = some o) : H b = some o ∧ ∀ ps, o ≠ .tbl ps := by
  unfold noT at h
  split at h
  · cases h
  · rename_i n
    exact ⟨h, fun ps e => n ps (by rw [h, e])⟩
theorem noT_of {H : Hp} {b : Addr} {o : HO} (h : H b = some o) (n : ∀ ps, o ≠ .tbl ps) : noT H b = some o := by
  unfold noT
  split
  · rename_i ps e
    rw [h] at e
    exact absurd (Option.some.inj e) (n ps)
  · exact h
theorem noT_same (H : Hp) : Same (noT H) H := fun _ _ h => (noT_some h).1
theorem noT_list {K : PySem.W.Frag} {H : Hp} {a : Addr} {xs : List V} (h : SqL K H a xs) : SqL K (noT H) a xs := by
  rcases h with (h | ⟨o, h⟩) | h
  · exact .inl (.inl (noT_of h (fun _ z => nomatch z)))
  · exact .inl (.inr ⟨o, noT_of h (fun _ z => nomatch z)⟩)
  · exact .inr h
/-- all but S and the tables stays -/
theorem Dst.ext {K : PySem.W.Frag} {H0 H H' : Hp} {S : Addr} (d : Dst K (noT H0) H S) (e : LamX.ExtN H H') : Dst K (noT H0) H' S := by
  obtain ⟨sc, ns, c, m, r, h1, h2, h3, h4⟩ := d
  exact ⟨sc, ns, c, m, r, e _ _ h1 (fun _ z => nomatch z), h2, fun b o n h => e _ _ (h3 b o n h) (noT_some h).2, h4⟩
theorem tabs_frm {K : PySem.W.Frag} {B H H' : Hp} {S : Addr} {T : List (Addr × Str)} (t : LamX.Tabs T H) (d : Dst K B H S) (f : Frm S H H') : LamX.Tabs T H' := fun p hp => by
  obtain ⟨sc, ns, c, m, r, hS, _⟩ := d
  obtain ⟨ps, h1, h2, h3⟩ := t p hp
  refine ⟨ps, f _ _ (ne_of h1 hS (fun z => nomatch z)) h1, h2, fun pos cv hc => ?_⟩
  obtain ⟨c', e1, e2⟩ := h3 pos cv hc
  exact ⟨c', e1, f _ _ (ne_of e2 hS (fun z => nomatch z)) e2⟩
theorem tabs_same {H H' : Hp} {T : List (Addr × Str)} (t : LamX.Tabs T H) (e : Same H H') : LamX.Tabs T H' := t.ext e
section
variable {P : Program} {w : World} {K : PySem.W.Frag} {mg : Str → Option Value} {base : Heap}
/-- a def whose code object is told -/
theorem fn_code {k : Nat} {f : Addr} {name qual : Str} {params : Arguments} {body : List Stmt} {scope : Scope} {dV kV doc pm cdv ct oc : Value} {an od : Option Addr} {osl : Array (Option Value)} {N ps : List Str} {sp : Sp}
    (lk : K.lookup f = some ⟨oc, od, .func (PySem.W.fnOf name qual params body scope dV kV doc pm an cdv ct), osl⟩) (hcd : PySem.W.codeIn K cdv qual = true) (S : FnScope N ps scope) (len : ∀ vs H Q E, sp vs H Q E → vs.length = ps.length)
    (hbody : ∀ (A : Around) (outer : List Env) (s : Shared) (H : Hp) (vs : List V) (Q : VK) (E : XK), Room k (A.deeper (envOfC qual scope s.heap.objs.size f cdv)) → sp vs H Q E →
      ∃ t, PSs (cxOf C8.CX0 P w K mg base N qual scope f cdv A outer s H E).nox body t ∧ t { nx := fun _ H' => Q .non H', rt := Q } (L2.start N vs) H) :
    FnOk P w K mg base C8.CX0 (k + 1) f (PySem.W.fnOf name qual params body scope dV kV doc pm an cdv ct) ps sp :=
  fn_of lk hcd S len fun A outer s H vs Q E hr hsp => (hbody A outer s H vs Q E hr hsp).elim fun t h => ⟨t, h.1.nox, h.2⟩
end
theorem g_lam {T : List (Addr × Str)} {TT : (XK → Hp → VK → Prop) → Hp → VK → Prop} {t : XK → TE} {σ : L2.St} {H : Hp} {Q : VK} (h : LamX.Tabs T H) (q : ∀ H1, LamX.ExtN H H1 → LamX.Tabs T H1 → TT (fun E H' Q' => t E σ H' Q') H1 Q) : LamX.tLam T TT t σ H Q := ⟨h, q⟩
end Wd
local macro_rules | `(tactic| walk_at "go") => `(tactic| repeat (first
  | with_reducible refine Wd.g_seq ?_
  | ((with_reducible show L2.Ends.nx _ _ _); (with_reducible refine Wd.g_nx ?_))
  | with_reducible refine Wd.g_asg ?_
  | ((with_reducible refine' Wd.g_var ?h1 ?_); (case h1 => exact rfl))
  | with_reducible refine Wd.g_c ?_
  | with_reducible refine Wd.g_op ?_
  | with_reducible refine Wd.g_un ?_
  | with_reducible refine Wd.g_I0 ?_
  | with_reducible refine Wd.g_U ?_
  | with_reducible refine Wd.g_eqI ?_
  | with_reducible refine Wd.g_neI ?_
  | with_reducible refine Wd.g_eqS ?_
  | with_reducible refine Wd.g_neS ?_
  | with_reducible refine Wd.g_eqB ?_
  | with_reducible refine Wd.g_neB ?_
  | with_reducible refine Wd.g_isN ?_
  | with_reducible refine Wd.g_notN ?_
  | with_reducible refine Wd.g_lc ?_
  | with_reducible refine Wd.g_yes ?_
  | with_reducible refine Wd.g_test ?_
  | with_reducible refine Wd.g_tB ?_
  | with_reducible refine Wd.g_bl ?_
  | with_reducible refine Wd.g_blI ?_
  | with_reducible refine Wd.g_and ?_
  | with_reducible refine Wd.g_or ?_
  | with_reducible refine Wd.g_not ?_
  | with_reducible refine Wd.g_andV ?_
  | with_reducible refine Wd.g_orV ?_
  | with_reducible refine Wd.g_notV ?_
  | with_reducible refine Wd.g_if ?_
  | with_reducible refine Wd.g_chain ?_
  | with_reducible refine Wd.g_chain3 ?_
  | with_reducible refine Wd.g_nil ?_
  | with_reducible refine Wd.g_cons ?_
  | with_reducible refine Wd.g_tup ?_
  | with_reducible refine Wd.g_lst ?_
  | with_reducible refine Wd.g_CB ?_
  | with_reducible refine Wd.g_call ?_
  | with_reducible refine Wd.g_callS ?_
  | with_reducible refine Wd.g_bm ?_
  | with_reducible refine Wd.g_bm0 ?_
  | with_reducible refine Wd.g_sl ?_
  | with_reducible refine Wd.g_part ?_
  | with_reducible refine Wd.g_part1 ?_
  | with_reducible refine Wd.g_noPart ?_
  | with_reducible refine Wd.g_next ?_
  | with_reducible refine Wd.g_name ?_
  | with_reducible refine Wd.g_sub ?_
  | with_reducible refine Wd.g_gnil ?_
  | with_reducible refine Wd.g_gcons ?_
  | with_reducible refine Wd.g_drop ?_
  | with_reducible refine Wd.g_ret ?_
  | with_reducible refine Wd.g_retN ?_
  | with_reducible refine Wd.g_brk ?_
  | with_reducible refine Wd.g_cont ?_
  | with_reducible refine Wd.g_ifS ?_
  | ((with_reducible show L2.Ends.bk _ _ _); (with_reducible refine Wd.g_bk ?_))
  | ((with_reducible show L2.Ends.ct _ _ _); (with_reducible refine Wd.g_ct ?_))
  | ((with_reducible show L2.Ends.rt _ _ _); (with_reducible refine Wd.g_rt ?_))
  | with_reducible refine Wd.g_for ?_
  | with_reducible refine Wd.g_rng1 ?_
  | with_reducible refine Wd.g_rng2 ?_
  | with_reducible refine Wd.g_iList ?_
  | with_reducible refine Wd.g_iTup ?_
  | ((with_reducible refine Wd.g_fit ?h1 ?_); (case h1 => exact rfl))
  | with_reducible refine Wd.g_max2 ?_
  | with_reducible refine Wd.g_min2 ?_
  | with_reducible refine Wd.g_int1B ?_
  | with_reducible refine L2.iteT ?_
  | with_reducible refine L2.iteF ?_
  | ((with_reducible refine Wd.g_itT ?h1 ?_); (case h1 => exact rfl))
  | ((with_reducible refine Wd.g_itF ?h1 ?_); (case h1 => exact rfl))))
/-! Plans as data; tuples that are repeated, made of lists; lists within comprehensions. -/
namespace Wd
open PySem PySem.Spec PyProof.Rows L2

/-! ### t * k, k from 0 on -/
theorem mul_once (l : Addr) (items : Array Value) (n : Nat) (dd : Option Addr) (sl : Array (Option Value)) (u : Tok) :
    Meets (Builtin.«tuple.__mul__» ⟨[.ref l, .int 1 u], []⟩) (fun _ R s => s.heap.get? l = some { cls := .type "tuple", dict := dd, data := .seq items n, slots := sl } ∧ R (.ok (.ret (Value.ref l))) s) :=
  .of_wp fun prog w A R s h => by
    obtain ⟨hp, g, d, tk, os⟩ := s
    obtain ⟨hl, q⟩ := h
    have one := AutoSeq1.idx_int
    wp_walk using AutoSeq1.wpAny_loadPart' hl
    exact ⟨_, rfl, q⟩
theorem mul_none (l : Addr) (items : Array Value) (n : Nat) (dd : Option Addr) (sl : Array (Option Value)) (u : Tok) (h2 : items.isEmpty = false) :
    Meets (Builtin.«tuple.__mul__» ⟨[.ref l, .int 0 u], []⟩) (fun _ R s => s.heap.get? l = some { cls := .type "tuple", dict := dd, data := .seq items n, slots := sl } ∧
      R (.ok (.ret (Value.ref s.heap.objs.size))) { s with heap := s.heap.push { cls := Value.type "tuple", data := Data.seq #[] }, toks := s.toks }) :=
  .of_wp fun prog w A R s h => by
    obtain ⟨hp, g, d, tk, os⟩ := s
    obtain ⟨hl, q⟩ := h
    have one := AutoSeq1.idx_int
    wp_walk using AutoSeq1.wpAny_loadPart' hl
    exact ⟨_, rfl, q⟩
def rRepU (K : PySem.W.Frag) : R2 := fun x y H Q => ∃ (l : Addr) (k : Int) (xs : List V), x = .ref l ∧ y = .int k ∧ SqT K H l xs ∧ xs ≠ [] ∧ 0 ≤ k ∧ k ≤ 1000 ∧ xs.length ≤ 1000 ∧ (k = 1 → Q (.ref l) H) ∧
  (k ≠ 1 → ∀ p, H p = none → Q (.ref p) (upd H p (.tup (List.replicate k.toNat xs).flatten)))
section
variable {X : Cx}
theorem op_repU : OpR X (binaryOp .Mult) (rRepU X.K) := by
  intro pins s σ H x y v u Q I rx ry h
  obtain ⟨l, k, xs, rfl, rfl, hT, hne, h0, h1, hz, q1, q2⟩ := h
  by_cases c2 : 2 ≤ k
  · exact op_repT pins s σ H _ _ _ _ Q I rx ry ⟨l, k, xs, rfl, rfl, hT, hne, c2, h1, hz, q2 (by omega)⟩
  · cases rx
    obtain ⟨t, rfl⟩ := ry
    obtain ⟨its, r, ⟨⟨cls, dd, data, sl⟩, ho, hc, n, hd⟩, hs⟩ := I.tuple hT
    simp only at hc hd
    subst hc hd
    have c01 : k = 0 ∨ k = 1 := by omega
    rcases c01 with rfl | rfl
    · have hem : its.toArray.isEmpty = false := by
        cases r with
        | nil => exact absurd rfl hne
        | cons _ _ => rfl
      refine wpAny_binaryOp_repeat_ref (T := "tuple") (U := "int") (by decide) ⟨_, ho, rfl⟩ (fun s' => typeIs_int s' 0 t) noFill_tuple_mul F.fills_int_mul F.slot_int_rmul repeat_tuple F.slot_int_index.lookup (call_meets F.slot_int_rmul (typeIs_int s 0 t) F.entry_int_rmul (F.args_int_rmul_2 _ _)
        (int_rmul_tuple 0 t l its.toArray n dd sl) ⟨ho, rfl, ⟨_, ho, rfl⟩, call_meets F.slot_tuple_mul ⟨_, ho, rfl⟩ F.entry_tuple_mul (F.args_tuple_mul_2 _ _) (mul_none l its.toArray n dd sl t hem) ⟨ho, ?_⟩⟩)
      refine ⟨.ref s.heap.objs.size, _, I.laid (t' := s.toks) (o := .tup []) (fun b ob z => Heap.get?_push_of_some _ z) (Nat.le_refl _) ?_, rfl, q2 (by decide) _ (I.hok.fresh (Nat.le_refl _))⟩
      exact ⟨Nat.zero_le _, [], .nil, IsTup.new _ _⟩
    · refine wpAny_binaryOp_repeat_ref (T := "tuple") (U := "int") (by decide) ⟨_, ho, rfl⟩ (fun s' => typeIs_int s' 1 t) noFill_tuple_mul F.fills_int_mul F.slot_int_rmul repeat_tuple F.slot_int_index.lookup (call_meets F.slot_int_rmul (typeIs_int s 1 t) F.entry_int_rmul (F.args_int_rmul_2 _ _)
        (int_rmul_tuple 1 t l its.toArray n dd sl) ⟨ho, rfl, ⟨_, ho, rfl⟩, call_meets F.slot_tuple_mul ⟨_, ho, rfl⟩ F.entry_tuple_mul (F.args_tuple_mul_2 _ _) (mul_once l its.toArray n dd sl t) ⟨ho, ?_⟩⟩)
      exact ⟨.ref l, H, I, rfl, q1 rfl⟩
end

/-! ### more steps -/
def rTupOf (K : PySem.W.Frag) : List V → Hp → VK → Prop := fun xs H Q => ∃ p ys, xs = [.ref p] ∧ ((SqL K H p ys ∧ ∀ l, H l = none → Q (.ref l) (upd H l (.tup ys))) ∨ (SqT K H p ys ∧ Q (.ref p) H))
theorem call_tuple1 {X : Cx} : CallR X (.type "tuple") (rTupOf X.K) := call_tuple_of
section
variable {K : PySem.W.Frag} {H H' : Hp} {Q : VK} {σ : L2.St} {x : V}
theorem g_tupOf {p : Addr} {ys : List V} (h : SqL K H p ys) (q : ∀ l, H l = none → Q (.ref l) (upd H l (.tup ys))) : rTupOf K [.ref p] H Q := ⟨p, ys, rfl, .inl ⟨h, q⟩⟩
theorem g_inT {p : Addr} {xs : List V} (h : SqT K H p xs) (fx : flatV x = true) (fs : xs.all flatV = true) (q : Q (.bl (inV x xs)) H) : rIn K false x (.ref p) H Q := ⟨p, xs, rfl, .inr h, fx, fs, q⟩
theorem g_notInT {p : Addr} {xs : List V} (h : SqT K H p xs) (fx : flatV x = true) (fs : xs.all flatV = true) (q : Q (.bl (!inV x xs)) H) : rIn K true x (.ref p) H Q := ⟨p, xs, rfl, .inr h, fx, fs, q⟩
theorem g_sum {a : Addr} {ns : List Int} (h : SqL K H a (ns.map V.int)) (q : Q (.int ns.sum) H) : rSum K [.ref a] H Q := ⟨a, ns, rfl, h, q⟩
theorem g_pop {l : Addr} {xs : List V} {y : V} (h : H l = some (.lst xs)) (hy : xs[xs.length - 1]? = some y) (q : Q y (upd H l (.lst xs.dropLast))) : rPop (.ref l) [] H Q := ⟨l, xs, y, rfl, rfl, h, hy, q⟩
theorem w_lcTup {g : TG} {tt : TT} {te : TE} {vs : List Nat} {p : Addr} {xs : List V} (hp : SqT K H p xs) (Pv : Addr → Nat → Hp → Prop) (h0 : ∀ D, H D = none → Pv D 0 (upd H D (.lst []))) (hl : ∀ D i H', H D = none → i ≤ xs.length → Pv D i H' → SqT K H' p xs)
    (hs : ∀ D i y H', H D = none → xs[i]? = some y → Pv D i H' → g y (wipe σ vs) H' fun σ2 H2 => wipe σ2 vs = wipe σ vs ∧ tt σ2 H2 fun b H3 =>
      if b = true then te σ2 H3 fun y H4 => ∃ acc, H4 D = some (.lst acc) ∧ acc.length < sizeLine ∧ Pv D (i + 1) (upd H4 D (.lst (acc ++ [y]))) else Pv D (i + 1) H3) (hd : ∀ D H', H D = none → Pv D xs.length H' → Q (.ref D) H') :
    ∃ q, V.ref p = .ref q ∧ (∃ xs, SqT K H q xs) ∧ LcEnd g tt te vs σ Q (Itt K q) H :=
  ⟨p, rfl, ⟨xs, hp⟩, fun D hD => lc_tup (Pv D) (h0 D hD) (fun i H' hi q => hl D i H' hD hi q) (fun i y H' hy q => hs D i y H' hD hy q) (fun H' q => hd D H' hD q)⟩
/-- the end of a comprehension's turn -/
theorem g_lcput {D : Addr} {acc : List V} {y : V} {N : Hp → Prop} (h : H D = some (.lst acc)) (hl : acc.length < 100000) (q : N (upd H D (.lst (acc ++ [y])))) : ∃ acc, H D = some (.lst acc) ∧ acc.length < sizeLine ∧ N (upd H D (.lst (acc ++ [y]))) := ⟨acc, h, Nat.lt_of_lt_of_le hl (by decide), q⟩
end

/-! ### plans -/
inductive Pl where
  | pat
  | work (a b : Int)
  | row (ps : List Pl)
  | either (ps : List Pl)
  | loop (a b : Int) (p : Pl)
/-- tuples stay -/
def KeepT (H H' : Hp) : Prop := ∀ b xs, H b = some (.tup xs) → H' b = some (.tup xs)
theorem KeepT.refl (H : Hp) : KeepT H H := fun _ _ h => h
theorem KeepT.trans {H H1 H2 : Hp} (a : KeepT H H1) (b : KeepT H1 H2) : KeepT H H2 := fun c xs h => b c xs (a c xs h)
theorem keepT_same {H H' : Hp} (e : Same H H') : KeepT H H' := fun b xs h => e b _ h
theorem keepT_new {H : Hp} {p : Addr} {o : HO} (h : H p = none) : KeepT H (upd H p o) := keepT_same (same_new h)
theorem keepT_lst {H : Hp} {p : Addr} {o : HO} {xs : List V} (h : H p = some (.lst xs)) : KeepT H (upd H p o) := fun b ys e => by rw [upd_ne (ne_of e h (fun z => nomatch z))]; exact e
theorem keepT_frm {K : PySem.W.Frag} {B H H' : Hp} {S : Addr} (d : Dst K B H S) (f : Frm S H H') : KeepT H H' := fun b xs h => by
  obtain ⟨sc, ns, c, m, r, hS, _⟩ := d
  exact f b _ (ne_of h hS (fun z => nomatch z)) h
mutual
inductive PlA (H : Hp) : V → Pl → Prop
  | pat {a : Addr} : H a = some (.tup [.str "pat"]) → PlA H (.ref a) .pat
  | work {a : Addr} {x y : Int} : H a = some (.tup [.str "work", .int x, .int y]) → PlA H (.ref a) (.work x y)
  | row {a b : Addr} {vs : List V} {ps : List Pl} : H a = some (.tup [.str "row", .ref b]) → H b = some (.tup vs) → PlAs H vs ps → PlA H (.ref a) (.row ps)
  | either {a b : Addr} {vs : List V} {ps : List Pl} : H a = some (.tup [.str "either", .ref b]) → H b = some (.tup vs) → PlAs H vs ps → PlA H (.ref a) (.either ps)
  | loop {a : Addr} {x y : Int} {u : V} {p : Pl} : H a = some (.tup [.str "loop", .int x, .int y, u]) → PlA H u p → PlA H (.ref a) (.loop x y p)
inductive PlAs (H : Hp) : List V → List Pl → Prop
  | nil : PlAs H [] []
  | cons {v : V} {vs : List V} {p : Pl} {ps : List Pl} : PlA H v p → PlAs H vs ps → PlAs H (v :: vs) (p :: ps)
end
mutual
theorem PlA_keep {H H' : Hp} (e : KeepT H H') : ∀ (p : Pl) (v : V), PlA H v p → PlA H' v p
  | .pat, _, h => by cases h with | pat h => exact .pat (e _ _ h)
  | .work _ _, _, h => by cases h with | work h => exact .work (e _ _ h)
  | .row ps, _, h => by cases h with | row h1 h2 h3 => exact .row (e _ _ h1) (e _ _ h2) (PlAs_keep e ps _ h3)
  | .either ps, _, h => by cases h with | either h1 h2 h3 => exact .either (e _ _ h1) (e _ _ h2) (PlAs_keep e ps _ h3)
  | .loop _ _ p, _, h => by cases h with | loop h1 h2 => exact .loop (e _ _ h1) (PlA_keep e p _ h2)
theorem PlAs_keep {H H' : Hp} (e : KeepT H H') : ∀ (ps : List Pl) (vs : List V), PlAs H vs ps → PlAs H' vs ps
  | [], _, h => by cases h; exact .nil
  | p :: ps, _, h => by cases h with | cons h1 h2 => exact .cons (PlA_keep e p _ h1) (PlAs_keep e ps _ h2)
end
theorem PlAs.len {H : Hp} : ∀ {vs : List V} {ps : List Pl}, PlAs H vs ps → vs.length = ps.length
  | [], [], _ => rfl
  | _ :: _, _ :: _, .cons _ h => by rw [List.length_cons, List.length_cons, PlAs.len h]
theorem PlAs.at {H : Hp} : ∀ {vs : List V} {ps : List Pl} {i : Nat} {v : V}, PlAs H vs ps → vs[i]? = some v → ∃ p, ps[i]? = some p ∧ PlA H v p
  | _, _, 0, _, .cons h _, e => by cases e; exact ⟨_, rfl, h⟩
  | _, _, i + 1, _, .cons _ h, e => PlAs.at (i := i) h e
theorem PlAs.snoc {H : Hp} : ∀ {vs : List V} {ps : List Pl} {v : V} {p : Pl}, PlAs H vs ps → PlA H v p → PlAs H (vs ++ [v]) (ps ++ [p])
  | _, _, _, _, .nil, h => .cons h .nil
  | _, _, _, _, .cons a b, h => .cons a (PlAs.snoc b h)
theorem PlAs.rep {H : Hp} {v : V} {p : Pl} (h : PlA H v p) : ∀ n : Nat, PlAs H (List.replicate n [v]).flatten (List.replicate n p)
  | 0 => .nil
  | n + 1 => .cons h (PlAs.rep h n)
mutual
/-- how many tuples are plans; how deep; how many loops within one another; its bounds as they should be -/
def cnt : Pl → Nat
  | .pat => 1
  | .work _ _ => 1
  | .row ps => 1 + cnts ps
  | .either ps => 1 + cnts ps
  | .loop _ _ p => 1 + cnt p
def cnts : List Pl → Nat
  | [] => 0
  | p :: ps => cnt p + cnts ps
end
mutual
def okP : Nat → Nat → Pl → Prop
  | _, _, .pat => True
  | _, _, .work a b => 0 ≤ a ∧ a ≤ b ∧ b ≤ 1000
  | 0, _, .row _ => False
  | d + 1, l, .row ps => 0 < ps.length ∧ ps.length ≤ 20 ∧ okPs d l ps
  | 0, _, .either _ => False
  | d + 1, l, .either ps => 0 < ps.length ∧ ps.length ≤ 20 ∧ okPs d l ps
  | 0, _, .loop _ _ _ => False
  | _ + 1, 0, .loop _ _ _ => False
  | d + 1, l + 1, .loop a b p => 0 ≤ a ∧ a ≤ b ∧ b ≤ 9 ∧ okP d l p
def okPs : Nat → Nat → List Pl → Prop
  | _, _, [] => True
  | d, l, p :: ps => okP d l p ∧ okPs d l ps
end
theorem okPs_at {d l : Nat} : ∀ {ps : List Pl} {i : Nat} {p : Pl}, okPs d l ps → ps[i]? = some p → okP d l p
  | _ :: _, 0, _, h, e => by cases e; exact h.1
  | _ :: ps, i + 1, _, h, e => okPs_at (ps := ps) (i := i) h.2 e
theorem okPs_snoc {d l : Nat} : ∀ {ps : List Pl} {p : Pl}, okPs d l ps → okP d l p → okPs d l (ps ++ [p])
  | [], _, _, h => ⟨h, trivial⟩
  | _ :: ps, _, h1, h => ⟨h1.1, okPs_snoc h1.2 h⟩
theorem okPs_rep {d l : Nat} {p : Pl} (h : okP d l p) : ∀ n : Nat, okPs d l (List.replicate n p)
  | 0 => trivial
  | n + 1 => ⟨h, okPs_rep h n⟩
theorem cnt_pos : ∀ p : Pl, 1 ≤ cnt p
  | .pat => Nat.le_refl 1
  | .work _ _ => Nat.le_refl 1
  | .row _ => Nat.le_add_right 1 _
  | .either _ => Nat.le_add_right 1 _
  | .loop _ _ _ => Nat.le_add_right 1 _
theorem small_lt {n : Nat} (h : n < 100000) : n < sizeLine := Nat.lt_of_lt_of_le h (by decide)
end Wd
/-! zip; comprehensions over lists. -/
namespace Wd
open PySem PySem.Spec PyProof.Rows L2
section
variable {σ : L2.St} {H : Hp} {Q : VK} {K : PySem.W.Frag}
theorem w_zip {a : L2.St → Hp → Prop} {b : VK} {g : TG} {tb : TS} {p r : Addr} {xs ys : List V} (hl : xs.length = ys.length) (Pv : Nat → L2.St → Hp → Prop) (h0 : Pv 0 σ H) (hq : ∀ i σ H, Pv i σ H → SqL K H p xs ∧ SqL K H r ys)
    (hs : ∀ i x y T σ H, xs[i]? = some x → ys[i]? = some y → Pv i σ H → H T = none → g (.ref T) σ (upd H T (.tup [x, y])) fun σ2 H2 => tb ⟨Pv (i + 1), b, a, Pv (i + 1)⟩ σ2 H2) (hd : ∀ σ H, Pv xs.length σ H → a σ H) :
    ∃ a' b' xs ys, [V.ref p, .ref r] = [V.ref a', .ref b'] ∧ SqL K H a' xs ∧ SqL K H b' ys ∧ ForEnd g tb a b σ (Itz K a' b') H :=
  ⟨p, r, xs, ys, rfl, (hq 0 σ H h0).1, (hq 0 σ H h0).2, RZ.for_zipL (D := ⟨a, b, fun _ _ => False, fun _ _ => False⟩) hl Pv h0 hq hs hd⟩
theorem w_lcZip {g : TG} {tt : TT} {te : TE} {vs : List Nat} {p r : Addr} {xs ys : List V} (hl : xs.length = ys.length) (hp : SqL K H p xs) (hr : SqL K H r ys) (Pv : Addr → Nat → Hp → Prop) (h0 : ∀ D, H D = none → Pv D 0 (upd H D (.lst [])))
    (hq : ∀ D i H', H D = none → Pv D i H' → SqL K H' p xs ∧ SqL K H' r ys)
    (hs : ∀ D i x y T H', H D = none → xs[i]? = some x → ys[i]? = some y → Pv D i H' → H' T = none → g (.ref T) (wipe σ vs) (upd H' T (.tup [x, y])) fun σ2 H2 => wipe σ2 vs = wipe σ vs ∧ tt σ2 H2 fun b H3 =>
      if b = true then te σ2 H3 fun y H4 => ∃ acc, H4 D = some (.lst acc) ∧ acc.length < sizeLine ∧ Pv D (i + 1) (upd H4 D (.lst (acc ++ [y]))) else Pv D (i + 1) H3) (hd : ∀ D H', H D = none → Pv D xs.length H' → Q (.ref D) H') :
    ∃ a' b' xs ys, [V.ref p, .ref r] = [V.ref a', .ref b'] ∧ SqL K H a' xs ∧ SqL K H b' ys ∧ LcEnd g tt te vs σ Q (Itz K a' b') H := by
  refine ⟨p, r, xs, ys, rfl, hp, hr, fun D hD => ?_⟩
  refine ⟨fun i m H' => m = xs.length - i ∧ i ≤ xs.length ∧ Pv D i H', ⟨xs.length, by simp, Nat.zero_le _, h0 D hD⟩, ?_⟩
  rintro i m H' ⟨rfl, hi, pv⟩
  obtain ⟨qx, qy⟩ := hq D i H' hD pv
  by_cases hlt : i < xs.length
  · have hx : xs[i]? = some xs[i] := List.getElem?_eq_getElem hlt
    have hlt2 : i < ys.length := by omega
    have hy : ys[i]? = some ys[i] := List.getElem?_eq_getElem hlt2
    refine .inr ⟨⟨xs, ys, _, _, qx, qy, hx, hy⟩, Pv D (i + 1), fun H' p' => ⟨xs.length - (i + 1), by omega, rfl, hlt, p'⟩, fun v H'' y => ?_⟩
    obtain ⟨T, x', y', rfl, hT, rfl, f1, f2⟩ := y
    exact hs D i x' y' T H' hD (f1 xs qx) (f2 ys qy) pv hT
  · have e : i = xs.length := by omega
    subst e
    exact .inl ⟨⟨xs, ys, qx, qy, Or.inl (Nat.le_refl _)⟩, hd D H' hD pv⟩
theorem w_lcList {g : TG} {tt : TT} {te : TE} {vs : List Nat} {p : Addr} {xs : List V} (hp : SqL K H p xs) (Pv : Addr → Nat → Hp → Prop) (h0 : ∀ D, H D = none → Pv D 0 (upd H D (.lst []))) (hl : ∀ D i H', H D = none → i ≤ xs.length → Pv D i H' → SqL K H' p xs)
    (hs : ∀ D i y H', H D = none → xs[i]? = some y → Pv D i H' → g y (wipe σ vs) H' fun σ2 H2 => wipe σ2 vs = wipe σ vs ∧ tt σ2 H2 fun b H3 =>
      if b = true then te σ2 H3 fun y H4 => ∃ acc, H4 D = some (.lst acc) ∧ acc.length < sizeLine ∧ Pv D (i + 1) (upd H4 D (.lst (acc ++ [y]))) else Pv D (i + 1) H3) (hd : ∀ D H', H D = none → Pv D xs.length H' → Q (.ref D) H') :
    ∃ q, V.ref p = .ref q ∧ (∃ xs, SqL K H q xs) ∧ LcEnd g tt te vs σ Q (Itl K q) H :=
  ⟨p, rfl, ⟨xs, hp⟩, fun D hD => lc_list (Pv D) (h0 D hD) (fun i H' hi q => hl D i H' hD hi q) (fun i y H' hy q => hs D i y H' hD hy q) (fun H' q => hd D H' hD q)⟩
theorem g_zip {ta : TA} {R : It → Hp → Prop} (h : ta σ H fun vs H1 => ∃ a b xs ys, vs = [.ref a, .ref b] ∧ SqL K H1 a xs ∧ SqL K H1 b ys ∧ R (Itz K a b) H1) : iZip K ta σ H R := h
end
end Wd
/-! Lambdas that stand in the heap: kept in lists, called from a comprehension; a parameter with a default. -/
namespace LamY
open PySem PySem.Spec PySem.Calls PyProof.Rows L2 LamX
/-- the object at f is a lambda, its defaults dV, its code at c' -/
def LamO (f : Addr) (q : Str) (params : Arguments) (body : Expr) (scope : Scope) (cl : List (Str × Addr)) (dV : Value) (c' : Addr) : HO :=
  .ext fun h => ∃ doc pm ctv : Value, h.get? f = some (PySem.W.kdv_obj "<lambda>" q params (.expr body) scope cl dV doc pm c' ctv)
theorem lamO_ne {f : Addr} {q : Str} {params : Arguments} {body : Expr} {scope : Scope} {cl : List (Str × Addr)} {dV : Value} {c' : Addr} (ps : Array Value) : LamO f q params body scope cl dV c' ≠ .tbl ps := fun z => by
  unfold LamO at z; cases z
section
variable {X : Cx} {pins : List (Addr × Obj)} {σ : L2.St} {H : Hp} {s : Shared}
/-- a code object more in the table -/
theorem tabs_more {T : List (Addr × Str)} {P c' : Addr} {q : Str} {ps : Array Value} {pos : Pos} (hT : Tabs T H) (hu : ∀ p ∈ T, p.1 = P → p.2 = q) (hP : H P = some (.tbl ps)) (ht : TriplesOk ps.toList)
    (ha : ∀ (p' : Pos) (cv : Value), codeAmong p' ps.toList = some cv → ∃ c, cv = .ref c ∧ H c = some (CodeO c q)) (nC : H c' = none) :
    ExtN H (upd (upd H P (.tbl (ps ++ #[rawInt pos.line, rawInt pos.col, .ref c']))) c' (CodeO c' q)) ∧ Tabs T (upd (upd H P (.tbl (ps ++ #[rawInt pos.line, rawInt pos.col, .ref c']))) c' (CodeO c' q)) := by
  generalize hpn : ps ++ #[rawInt pos.line, rawInt pos.col, .ref c'] = pn
  have X1 : ExtN H (upd (upd H P (.tbl pn)) c' (CodeO c' q)) := fun b o e n => by
    have b1 : b ≠ c' := ne_of_none e nC
    have b2 : b ≠ P := fun z => by subst z; rw [hP] at e; exact n ps (Option.some.inj e).symm
    rw [upd_ne b1, upd_ne b2]; exact e
  refine ⟨X1, fun p hp => ?_⟩
  by_cases hb : p.1 = P
  · have el : pn.toList = ps.toList ++ [rawInt pos.line, rawInt pos.col, .ref c'] := by rw [← hpn]; simp
    rw [hu p hp hb, hb]
    refine ⟨pn, ?_, ?_, fun p' cv hcv => ?_⟩
    · rw [upd_ne (ne_of_none hP nC)]; exact upd_same
    · rw [el]; exact TriplesOk_snoc _ _ _ _ ht
    · rw [el] at hcv
      rcases among_app _ ht hcv with z | z
      · exact (ha p' cv z).elim fun c0 e => ⟨c0, e.1, X1 _ _ e.2 codeO_ne⟩
      · exact ⟨c', z, upd_same⟩
  · obtain ⟨qs, a1, a2, a3⟩ := hT p hp
    refine ⟨qs, ?_, a2, fun p' cv hcv => (a3 p' cv hcv).elim fun c0 e => ⟨c0, e.1, X1 _ _ e.2 codeO_ne⟩⟩
    rw [upd_ne (ne_of_none a1 nC), upd_ne hb]; exact a1
/-- the lambda is made, and stands -/
theorem make_lam {T : List (Addr × Str)} {c P : Addr} {params : Arguments} {body : Expr} {scope : Scope} {pos : Pos} {dV : Value} {E Q : Value → Shared → Prop}
    (I : Inv X pins σ H s) (TB : TabB X.base X.mg c P) (hcode : X.env.code = .ref c) (hm : (P, X.env.qual ++ "<lambda>") ∈ T) (hu : ∀ p ∈ T, p.1 = P → p.2 = X.env.qual ++ "<lambda>") (hT : Tabs T H)
    (hfree : ∀ y ∈ scope.names, y.2 = .free → ∃ c, X.env.cells.lookup y.1 = some c)
    (h : ∀ (f c' : Addr) (H1 : Hp) (s' : Shared), Inv X pins σ (upd H1 f (LamO f (X.env.qual ++ "<lambda>") params body scope (cloFrom X.env.cells scope.names []) dV c')) s' → ExtN H H1 → Tabs T H1 → H1 f = none →
      H1 c' = some (CodeO c' (X.env.qual ++ "<lambda>")) → Q (.ref f) s') :
    wpAny (model X.prog X.w) X.A (makeTail "<lambda>" (X.env.qual ++ "<lambda>") params (.expr body) scope X.env dV .none none pos pos.line) Q E s := by
  obtain ⟨ps, hP, ht, ha⟩ := hT _ hm
  have bP : s.heap.BuiltinsAt X.mg P := TB.bm.keeps I.bk
  have gP : s.heap.get? P = some { cls := .none, data := .fields ps } := I.hok P _ hP
  have gN := I.mod.glob.keeps I.bk
  have cH := TB.code.keeps I.bk
  cases hc : codeAmong pos ps.toList with
  | some cv =>
    obtain ⟨c', e, hco⟩ := ha pos cv hc
    subst e
    refine PySem.W.kdv_makeTailHit (mg := X.mg) (P := P) (ps := ps) (closure_ok hfree) I.ok.glob gN hcode cH gP ht hc bP fun ctv doc h' tk hx hsz => ?_
    have I1 : Inv X pins σ H { s with heap := h', toks := tk } := I.kept hx
    have nf : H h'.objs.size = none := I.hok.fresh hsz
    have I2 := I1.laid (t' := tk) (o := LamO h'.objs.size (X.env.qual ++ "<lambda>") params body scope (cloFrom X.env.cells scope.names []) dV c') (fun b o e => Heap.get?_push_of_some (PySem.W.kdv_obj "<lambda>" (X.env.qual ++ "<lambda>") params (.expr body) scope (cloFrom X.env.cells scope.names []) dV doc ((X.mg "__name__").getD .none) c' ctv) e) (Nat.le_refl _)
      ⟨⟨doc, _, ctv, Heap.get?_push_size _ rfl⟩, ⟨_, Heap.get?_push_size _ rfl⟩, fun h1 h2 ⟨a, b, c, e⟩ k => ⟨a, b, c, k _ e⟩⟩
    exact h _ c' H _ I2 (ExtN.refl H) hT nf hco
  | none =>
    refine PySem.W.kdv_makeTail (mg := X.mg) (P := P) (ps := ps) (closure_ok hfree) I.ok.glob gN hcode cH gP ht hc TB.gP bP fun c' ctv doc h' tk hx hge hlt hrec htb => ?_
    obtain ⟨c2, oc, vs, t, e2, hoc, hd, hv⟩ := hrec
    cases e2
    have nC : H c' = none := I.hok.fresh hge
    have I1 := inv_table (t' := tk) (more := #[rawInt pos.line, rawInt pos.col, .ref c']) (h' := h') I hP (fun b o hb e => hx b o hb e) htb hge ⟨oc, vs, t, hoc, hd, hv⟩
    obtain ⟨x1, t1⟩ := tabs_more (pos := pos) hT hu hP ht ha nC
    have hco := upd_same (H := upd H P (.tbl (ps ++ #[rawInt pos.line, rawInt pos.col, .ref c']))) (a := c') (o := CodeO c' (X.env.qual ++ "<lambda>"))
    generalize upd (upd H P (.tbl (ps ++ #[rawInt pos.line, rawInt pos.col, .ref c']))) c' (CodeO c' (X.env.qual ++ "<lambda>")) = H1 at I1 x1 t1 hco
    have I2 := I1.laid (t' := tk) (o := LamO h'.objs.size (X.env.qual ++ "<lambda>") params body scope (cloFrom X.env.cells scope.names []) dV c') (fun b o e => Heap.get?_push_of_some (PySem.W.kdv_obj "<lambda>" (X.env.qual ++ "<lambda>") params (.expr body) scope (cloFrom X.env.cells scope.names []) dV doc ((X.mg "__name__").getD .none) c' ctv) e) (Nat.le_refl _)
      ⟨⟨doc, _, ctv, Heap.get?_push_size _ rfl⟩, ⟨_, Heap.get?_push_size _ rfl⟩, fun h1 h2 ⟨a, b, c, e⟩ k => ⟨a, b, c, k _ e⟩⟩
    exact h _ c' H1 _ I2 x1 t1 (I1.hok.fresh (Nat.le_refl _)) hco
def tLamS (T : List (Addr × Str)) (q : Str) (params : Arguments) (body : Expr) (scope : Scope) (cl : List (Str × Addr)) : TE := fun _ H Q => Tabs T H ∧ ∀ (H1 : Hp) (f c' : Addr), ExtN H H1 → Tabs T H1 → H1 f = none → H1 c' = some (CodeO c' q) →
  Q (.ref f) (upd H1 f (LamO f q params body scope cl .none c'))
/-- lambda: body, as a value -/
theorem pe_lamS {T : List (Addr × Str)} {c P : Addr} {params : Arguments} {body : Expr} {scope : Scope} {pos : Pos} (TB : TabB X.base X.mg c P) (hcode : X.env.code = .ref c) (hm : (P, X.env.qual ++ "<lambda>") ∈ T) (hu : ∀ p ∈ T, p.1 = P → p.2 = X.env.qual ++ "<lambda>")
    (hfree : ∀ y ∈ scope.names, y.2 = .free → X.env.scope.names.lookup y.1 = some .cell ∨ X.env.scope.names.lookup y.1 = some .free) (hdef : defaultsOf params X.env = ([], [])) :
    PE X (.Lambda params body scope pos) (tLamS T (X.env.qual ++ "<lambda>") params body scope (cloFrom X.env.cells scope.names [])) := by
  refine ⟨fun pins s σ H Q I h => PySem.W.kla_eval hdef ?_⟩
  rw [makeFunction_eq]
  simp only [List.zip_nil_right, List.filterMap_nil, List.isEmpty_nil, if_true, pure_bind]
  exact make_lam I TB hcode hm hu h.1 (fun y hy e => (hfree y hy e).elim (fun k => I.ok.has _ (.inl k)) fun k => I.ok.has _ (.inr k)) fun f c' H1 s' I1 x t n hc => ⟨.ref f, _, I1, rfl, h.2 H1 f c' x t n hc⟩
def tLamD (T : List (Addr × Str)) (q : Str) (params : Arguments) (body : Expr) (scope : Scope) (cl : List (Str × Addr)) (n : Int) : TE := fun _ H Q => Tabs T H ∧ ∀ (H1 : Hp) (f c' D : Addr), ExtN H H1 → Tabs T H1 → H1 f = none → H1 c' = some (CodeO c' q) →
  H D = none → H1 D = some (.tup [.int n]) → Q (.ref f) (upd H1 f (LamO f q params body scope cl (.ref D) c'))
/-- lambda x=n: body, as a value -/
theorem pe_lamD {T : List (Addr × Str)} {c P : Addr} {params : Arguments} {body : Expr} {scope : Scope} {pos p1 : Pos} {n : Int} {k1 : Nat} (TB : TabB X.base X.mg c P) (hcode : X.env.code = .ref c) (hm : (P, X.env.qual ++ "<lambda>") ∈ T) (hu : ∀ p ∈ T, p.1 = P → p.2 = X.env.qual ++ "<lambda>")
    (hfree : ∀ y ∈ scope.names, y.2 = .free → X.env.scope.names.lookup y.1 = some .cell ∨ X.env.scope.names.lookup y.1 = some .free) (hd : params.defaults = [.Constant (.int n) k1 p1]) (hk : params.kw_defaults = []) :
    PE X (.Lambda params body scope pos) (tLamD T (X.env.qual ++ "<lambda>") params body scope (cloFrom X.env.cells scope.names []) n) := by
  refine ⟨fun pins s σ H Q I h => PySem.W.kdv_lam (by rw [hd]; rfl) hk ?_⟩
  rw [hd]
  refine PySem.W.kdv_all1 (thn ((pe_int (X := X) (i := n)).run pins s σ H (fun v H1 => v = .int n ∧ H1 = H) I ⟨rfl, rfl⟩) fun u s1 ⟨v, H1, I1, r, e1, e2⟩ => PySem.W.kdv_all0 ?_)
  subst e1 e2
  rw [makeFunction_eq]
  simp only [List.zip_nil_right, List.filterMap_nil, List.isEmpty_nil, List.isEmpty_cons, Bool.false_eq_true, if_false, if_true, pure_bind]
  refine wpAny_bind (wpAny_newTextTuple ?_)
  have nD : H1 s1.heap.objs.size = none := I1.hok.fresh (Nat.le_refl _)
  have I2 := I1.laid (t' := s1.toks) (o := .tup [.int n]) (fun b o e => Heap.get?_push_of_some { cls := .type "tuple", data := .seq [u].toArray } e) (Nat.le_refl _) ⟨by show 1 ≤ sizeLine; decide, [u], .cons r .nil, ⟨_, Heap.get?_push_size _ rfl, rfl, _, rfl⟩⟩
  have x1 : ExtN H1 (upd H1 s1.heap.objs.size (.tup [.int n])) := .of fun b o e => by rw [upd_ne (ne_of_none e nD)]; exact e
  exact make_lam I2 TB hcode hm hu (h.1.ext fun b o e => by rw [upd_ne (ne_of_none e nD)]; exact e) (fun y hy e => (hfree y hy e).elim (fun k => I1.ok.has _ (.inl k)) fun k => I1.ok.has _ (.inr k))
    fun f c' H3 s' I3 x t nf hc => ⟨.ref f, _, I3, rfl, h.2 H3 f c' _ (x1.trans x) t nf hc nD (x _ _ upd_same fun _ z => nomatch z)⟩
end
/-! ### a lambda called -/
/-- its names: none of its own but parameters whose names the def knows not -/
structure LamD (N : List Str) (sc scope : Scope) (bs : List Str) : Prop where
  kind : scope.kind = .function
  co : scope.isCoroutine = false
  gen : scope.isGenerator = false
  own : ∀ y ∈ scope.names, y.2 ≠ .cell ∧ (y.2 = .local → y.1 ∉ N)
  free : ∀ y ∈ scope.names, y.2 = .free → sc.names.lookup y.1 = some .cell ∨ sc.names.lookup y.1 = some .free
  par : ∀ y ∈ bs, scope.names.lookup y = some .local
def lamDB (N : List Str) (sc scope : Scope) (bs : List Str) : Bool :=
  decide (scope.kind = .function) && !scope.isCoroutine && !scope.isGenerator && (scope.names.all fun y => !decide (y.2 = .cell) && (!decide (y.2 = .local) || !decide (y.1 ∈ N)) && (!decide (y.2 = .free) || decide (sc.names.lookup y.1 = some .cell) || decide (sc.names.lookup y.1 = some .free))) &&
    bs.all fun y => decide (scope.names.lookup y = some .local)
theorem lamD_by {N : List Str} {sc scope : Scope} {bs : List Str} (h : lamDB N sc scope bs = true) : LamD N sc scope bs := by
  unfold lamDB at h
  simp only [Bool.and_eq_true, Bool.or_eq_true, Bool.not_eq_true', decide_eq_true_eq, decide_eq_false_iff_not, List.all_eq_true] at h
  obtain ⟨⟨⟨⟨h1, h2⟩, h3⟩, h4⟩, h5⟩ := h
  refine ⟨h1, h2, h3, fun y hy => ⟨(h4 y hy).1.1, fun e => (h4 y hy).1.2.elim (fun z => absurd e z) id⟩, fun y hy e => ?_, h5⟩
  rcases (h4 y hy).2 with (z | z) | z
  · exact absurd e z
  · exact .inl z
  · exact .inr z
section
variable {X : Cx} {pins : List (Addr × Obj)} {σ : L2.St} {H HZ : Hp} {s s1 : Shared}
theorem LamD.has {N : List Str} {scope : Scope} {bs : List Str} (L : LamD N X.env.scope scope bs) (ok : X.Ok) : ∀ y ∈ scope.names, y.2 = .free → ∃ c, X.env.cells.lookup y.1 = some c := fun y hy e =>
  (L.free y hy e).elim (fun k => ok.has _ (.inl k)) fun k => ok.has _ (.inr k)
/-- the lambda's body begins: what it captured stands as the def's slots tell -/
theorem body_start {A : Around} {outer : List Env} {E : XK} {scope : Scope} {f c' : Addr} {h₁ : Heap} {tk : Nat} {bs : List Str} {m : Str → Option Value} (I : Inv X pins σ H s) (L : LamD X.N X.env.scope scope bs) (e0 : Env0 X.prog X.w X.K X.mg X.base A outer s1 HZ) (hd : A.handled = none)
    (un : Un (frs X.stack) [] H HZ s.heap s1.heap) (hns : h₁.Ns s1.heap.objs.size m) (kp : ∀ b o, s1.heap.get? b = some o → h₁.get? b = some o) : Inv (lamCx X A outer s1 HZ E scope f c') [] σ HZ { s1 with heap := h₁, toks := tk } := by
  have hfree := L.has I.ok
  have back : ∀ {y c}, (cloFrom X.env.cells scope.names []).lookup y = some c → X.env.cells.lookup y = some c := fun {y c} e => by
    rcases cloFrom_mem (PySem.mem_of_lookup e) with hm | ⟨h1, h2⟩
    · exact nomatch hm
    · obtain ⟨c1, hc⟩ := hfree _ h1 rfl
      replace hc : X.env.cells.lookup y = some c1 := hc
      have e2 : c = c1 := by rw [h2, hc] <;> rfl
      rw [e2, hc]
  have there : ∀ {y}, scope.names.lookup y = some .free → ∃ c, (cloFrom X.env.cells scope.names []).lookup y = some c := fun {y} hl =>
    mem_lookup (cloFrom_has (cells := X.env.cells) (acc := []) (show (y, NameKind.free) ∈ scope.names from PySem.mem_of_lookup hl))
  have cellK : ∀ {c : Addr} {v : Option Value}, H c = none → s.heap.IsCell c v → h₁.IsCell c v := fun {c v} n ⟨o, ho, hd⟩ => by
    obtain ⟨sl, q⟩ := un.any ho n (by simp)
    exact ⟨_, kp _ _ q, hd⟩
  have noex : ∀ b : Addr, b ∈ (lamCx X A outer s1 HZ E scope f c').ex → False := fun b z => by
    have z : b ∈ ([] : List Addr) := z
    simp at z
  have okX : (lamCx X A outer s1 HZ E scope f c').Ok := by
    refine ⟨e0.mod, L.kind, rfl, rfl, Nat.le_refl _, fun y z c e1 e2 => I.ok.inj y z c (back e1) (back e2), fun y hy => ?_, fun y c z _ => ?_, fun _ => hd, Around.frames_deeper e0.frames, .inr ⟨rfl, rfl⟩, fun b z => (noex b z).elim, e0.bs, e0.bsz, fun b _ _ z => noex b z,
      fun b z => (noex b z).elim, e0.funs, e0.frf⟩
    · rcases (show scope.names.lookup y = some .cell ∨ scope.names.lookup y = some .free from hy) with hy | hy
      · exact absurd rfl (L.own _ (PySem.mem_of_lookup hy)).1
      · exact there hy
    · exact nomatch (show false = true from z)
  refine ⟨okX, rfl, e0.bare, Un.kept kp, ⟨_, hns, fun i y v e1 e2 e3 => ?_⟩, fun y c e => ?_, e0.hok.fresh (Nat.le_refl _), fun y c e => ?_, fun q hq => ?_, e0.hok.kept kp, I.len⟩
  · replace e1 : X.N[i]? = some y := e1
    rcases (show Vis scope y from e3) with k | k | k
    · exact absurd (List.mem_of_getElem? e1) ((L.own _ (PySem.mem_of_lookup k)).2 rfl)
    · exact absurd rfl (L.own _ (PySem.mem_of_lookup k)).1
    · have fr := L.free _ (PySem.mem_of_lookup k) rfl
      obtain ⟨m2, hn, hl⟩ := I.loc
      obtain ⟨w', r, q⟩ := hl i y v e1 e2 (fr.elim (fun k => .inr (.inl k)) fun k => .inr (.inr k))
      obtain ⟨c2, h2⟩ := there k
      have c1 := back h2
      refine ⟨w', r, .inr ⟨.inr k, c2, h2, ?_⟩⟩
      rcases q with ⟨k', _⟩ | ⟨_, c3, e', z⟩
      · replace k' : X.env.scope.names.lookup y = some .local := k'
        rcases fr with k2 | k2
        · cases k'.symm.trans k2
        · cases k'.symm.trans k2
      · cases c1.symm.trans e'
        exact cellK (I.freeC y _ c1) z
  · exact (I.cell y c (back e)).elim fun v z => ⟨v, cellK (I.freeC y c (back e)) z⟩
  · obtain ⟨v, o, ho, hd⟩ := I.cell y c (back e)
    exact un.free c o ho (I.freeC y c (back e)) (by simp)
  · replace hq : q ∈ ([] : List (Addr × Obj)) ++ [] := hq
    simp at hq
/-- a(), in the def that was handed the lambda at f -/
theorem act_lam {CXg : CXT} {Eg : XK} {Ng : List Str} {qg a : Str} {sg scope : Scope} {g f c' : Addr} {cdg dV : Value} {params : Arguments} {body : Expr} {k i : Nat} {pn : List (Addr × Obj)} {xe : Value → Shared → Prop} {W : WX} {E : XK} {tb : TE} {p1 p2 : Pos} {bs : List Str} {Dfl : Hp → Prop}
    (I : Inv X pins σ H s) (L : LamD X.N X.env.scope scope bs)
    (hbind : ∀ (s' : Shared) (H' : Hp) (doc pm cv ctv : Value), HOk X.prog X.w H' s'.heap → Dfl H' → ∃ binds : List (Str × Value), (∀ y ∈ binds, y.1 ∈ bs) ∧ BindsTo s' (PySem.W.kdv_fn "<lambda>" (X.env.qual ++ "<lambda>") params (.expr body) scope (cloFrom X.env.cells scope.names []) dV doc pm cv ctv) ⟨[], []⟩ binds)
    (tk : Takes ((cxOf CXg X.prog X.w X.K X.mg X.base Ng qg sg g cdg X.A X.stack s H Eg).tr pn xe) W) (hW : ∀ cls d σ' H', E cls d H' → W cls d σ' H') (hr : Room (k + 1) (X.A.deeper (envOfC qg sg s.heap.objs.size g cdg)))
    (hbody : ∀ (A : Around) (outer : List Env) (s : Shared) (H : Hp), Room k (A.deeper (lamEnv X scope s.heap.objs.size f c')) → PE (lamCx X A outer s H E scope f c') body tb)
    (hN : Ng[i]? = some a) (hv : Vis sg a) (hd : (a == ("__debug__" : Str)) = false) (hcd : (a == ("__classdict__" : Str)) = false) :
    PE ((cxOf CXg X.prog X.w X.K X.mg X.base Ng qg sg g cdg X.A X.stack s H Eg).tr pn xe) (.Call (.Name a p1) [] [] p2)
      (fun σZ HZ Q => σZ[i]? = some (some (.ref f)) ∧ HZ c' = some (CodeO c' (X.env.qual ++ "<lambda>")) ∧ HZ f = some (LamO f (X.env.qual ++ "<lambda>") params body scope (cloFrom X.env.cells scope.names []) dV c') ∧ Dfl HZ ∧ tb σ HZ Q) := by
  refine ⟨fun pinsZ sZ σZ HZ Q IZ ⟨hs, hc, hf, hD, ht⟩ => ?_⟩
  have rn := (pe_var (pos := p1) (i := i) hN hv hd hcd).run pinsZ sZ σZ HZ (fun v H1 => v = .ref f ∧ H1 = HZ) IZ ⟨.ref f, hs, rfl, rfl⟩
  refine wpAny_Call_Name_kw (thn rn fun u s1 ⟨v, H1, I1, r1, e1, e2⟩ => ?_)
  subst e1 e2
  obtain rfl : u = Value.ref f := r1
  obtain ⟨⟨doc, pm, ctv, of1⟩, _, _⟩ := I1.hok f _ hf
  obtain ⟨⟨oc, vs, t, hoc, hdc, hvc⟩, _, _⟩ := I1.hok c' _ hc
  have un : Un (frs X.stack) [] H H1 s.heap s1.heap := I1.base
  have rc : codeAny (model X.prog X.w) (X.A.deeper (envOfC qg sg s.heap.objs.size g cdg)) (.call (.ref f) ⟨[], []⟩) (CR (L2.CX X.prog X.w) (envOfC qg sg s.heap.objs.size g cdg :: X.stack) X.prog X.w H1 s1 Q E) s1 := by
    obtain ⟨binds, hbs, hbt⟩ := hbind s1 H1 doc pm (.ref c') ctv I1.hok hD
    refine PySem.W.kla_callFunE hr.depth of1 rfl L.co L.gen rfl ⟨c', oc, vs, t, rfl, hoc, hdc, hvc⟩ (hbt _ _ _ _ ?_)
    refine wpAny_newFunctionEnv (fun y hy => (L.own y hy).1) (fun y hy => L.par _ (hbs y hy)) (fun h₁ hns hsb => ⟨I1.nolimit.fresh _ hsb, ?_⟩) L.kind
    have kp : ∀ b o, s1.heap.get? b = some o → h₁.get? b = some o := fun b o e => hsb.extBut b o (Nat.ne_of_lt (Heap.lt_size e)) (Heap.get?_push_of_some _ e)
    have J : Inv (lamCx X (X.A.deeper (envOfC qg sg s.heap.objs.size g cdg)) (envOfC qg sg s.heap.objs.size g cdg :: X.stack) s1 H1 E scope f c') [] σ H1 { s1 with heap := h₁, toks := s1.toks + binds.length } := body_start I L I1.env0 hr.hd un hns kp
    refine PySem.W.kla_codeExpr (wpAny_mono ((hbody _ _ s1 H1 (hr.deeper _)).run [] _ _ H1 Q J ht) (fun v s' hq => ?_) fun e s' hq => hq)
    exact hq.elim fun w' ⟨H', J', rv, q⟩ => ⟨w', H', J'.os, J'.bare, J'.base, J'.hok, rv, q⟩
  have hx := passes_call tk hW
  refine PySem.W.callWith_F0 ⟨_, _, _, _, of1⟩ (wpAny_call (codeAny_mono rc fun r s' hq => ?_))
  rcases r with e | fl
  · exact hx pinsZ σZ H1 s1 e s' I1 hq
  · cases fl with
    | ret u => exact I1.after hq
    | next => exact hq.elim
    | brk => exact hq.elim
    | cont => exact hq.elim
/-- a def called with a lambda that stands -/
theorem run_kind {TT : (XK → Hp → VK → Prop) → Hp → VK → Prop} {x a : Str} {g f c' : Addr} {k : Nat} {pg : Arguments} {bg : List Stmt} {sg scope : Scope} {dV' kV doc pm cdv ct oc dV : Value} {an od : Option Addr} {osl : Array (Option Value)} {Ng : List Str} {bs : List Str} {Dfl : Hp → Prop}
    {params : Arguments} {body : Expr} {t : XK → TE} {Q : VK} (lk : X.K.lookup g = some ⟨oc, od, .func (PySem.W.fnOf x x pg bg sg dV' kV doc pm an cdv ct), osl⟩) (hcg : PySem.W.codeIn X.K cdv x = true) (hb : L2.Binds X.K (PySem.W.fnOf x x pg bg sg dV' kV doc pm an cdv ct) [a] []) (Sg : FnScope Ng [a] sg)
    (hNg : Ng[0]? = some a) (hva : Vis sg a) (hG : GivesTo X Ng x sg g cdv bg a (X.env.qual ++ "<lambda>") TT) (hr : Room (k + 2) X.A) (L : LamD X.N X.env.scope scope bs)
    (hbind : ∀ (s' : Shared) (H' : Hp) (doc pm cv ctv : Value), HOk X.prog X.w H' s'.heap → Dfl H' → ∃ binds : List (Str × Value), (∀ y ∈ binds, y.1 ∈ bs) ∧ BindsTo s' (PySem.W.kdv_fn "<lambda>" (X.env.qual ++ "<lambda>") params (.expr body) scope (cloFrom X.env.cells scope.names []) dV doc pm cv ctv) ⟨[], []⟩ binds)
    (hbody : ∀ (A : Around) (outer : List Env) (s : Shared) (H : Hp) (E : XK) (f c' : Addr), Room k (A.deeper (lamEnv X scope s.heap.objs.size f c')) → PE (lamCx X A outer s H E scope f c') body (t E))
    (hd : (a == ("__debug__" : Str)) = false) (hcd : (a == ("__classdict__" : Str)) = false) (I : Inv X pins σ H s) (hco : H c' = some (CodeO c' (X.env.qual ++ "<lambda>")))
    (h : TT (fun E H' Q' => H' f = some (LamO f (X.env.qual ++ "<lambda>") params body scope (cloFrom X.env.cells scope.names []) dV c') ∧ Dfl H' ∧ t E σ H' Q') H Q) :
    codeAny (model X.prog X.w) X.A (.call (.ref g) ⟨[.ref f], []⟩) (CR C8.CX0 X.stack X.prog X.w H s Q C8.E0) s := by
  refine run_ofS (N := Ng) (ps := [a]) (us := [.ref f]) (vs := [.ref f]) lk hcg Sg hr I.env0 (hb s [.ref f] I.kIn rfl) (.cons rfl .nil) rfl fun hr' => ?_
  have gv := hG f c' s H Q _ (fun W pn xe E p1 p2 tk hW => act_lam (i := 0) I L hbind tk hW hr' (fun A outer s H hr2 => hbody A outer s H E f c' hr2) hNg hva hd hcd) hco h
  exact gv.elim fun t' ht => ⟨t', ht.1.nox, ht.2⟩
end
end LamY
/-! Calls of a def with lambdas that stand; a comprehension whose tests see what the def's slots tell. -/
namespace LamY
open PySem PySem.Spec PySem.Calls PyProof.Rows L2 LamX
section
variable {X : Cx} {TT : (XK → Hp → VK → Prop) → Hp → VK → Prop} {x a : Str} {g : Addr} {k : Nat} {pg : Arguments} {bg : List Stmt} {sg : Scope} {dV' kV doc pm cdv ct oc : Value} {an od : Option Addr} {osl : Array (Option Value)} {Ng : List Str} {e : Expr} {ta : TA} {p pos : Pos}
/-- x(e), e a lambda that stands -/
theorem pe_kindV {scope : Scope} {params : Arguments} {body : Expr} {t : XK → TE} {bs : List Str} {Dfl : Addr → Hp → Prop} {dVof : Addr → Value} (hg : Gl X x) (hm : X.mg x = some (.ref g)) (hk : PySem.W.keepIn X.K (.ref g) = true)
    (lk : X.K.lookup g = some ⟨oc, od, .func (PySem.W.fnOf x x pg bg sg dV' kV doc pm an cdv ct), osl⟩) (hcg : PySem.W.codeIn X.K cdv x = true) (hb : L2.Binds X.K (PySem.W.fnOf x x pg bg sg dV' kV doc pm an cdv ct) [a] []) (Sg : FnScope Ng [a] sg)
    (hNg : Ng[0]? = some a) (hva : Vis sg a) (hG : GivesTo X Ng x sg g cdv bg a (X.env.qual ++ "<lambda>") TT) (hr : Room (k + 2) X.A) (L : LamD X.N X.env.scope scope bs)
    (hbind : ∀ (D : Addr) (s' : Shared) (H' : Hp) (doc pm cv ctv : Value), HOk X.prog X.w H' s'.heap → Dfl D H' → ∃ binds : List (Str × Value), (∀ y ∈ binds, y.1 ∈ bs) ∧ BindsTo s' (PySem.W.kdv_fn "<lambda>" (X.env.qual ++ "<lambda>") params (.expr body) scope (cloFrom X.env.cells scope.names []) (dVof D) doc pm cv ctv) ⟨[], []⟩ binds)
    (hbody : ∀ (A : Around) (outer : List Env) (s : Shared) (H : Hp) (E : XK) (f c' : Addr), Room k (A.deeper (lamEnv X scope s.heap.objs.size f c')) → PE (lamCx X A outer s H E scope f c') body (t E)) (ha : PA X [e] ta)
    (hdb : (x == ("__debug__" : Str)) = false := by decide) (hd : (a == ("__debug__" : Str)) = false := by decide) (hcd : (a == ("__classdict__" : Str)) = false := by decide)
    (he : starEach [e] X.env = (false, eval e X.env) :: starEach [] X.env := by rfl) (hpl : (backTo pos (starEach [] X.env)).any (·.1) = false := by rfl) :
    PE X (.Call (.Name x p) [e] [] pos) (fun σ H Q => ta σ H fun vs H1 => ∃ f c' D : Addr, vs = [.ref f] ∧ H1 c' = some (CodeO c' (X.env.qual ++ "<lambda>")) ∧
      TT (fun E H' Q' => H' f = some (LamO f (X.env.qual ++ "<lambda>") params body scope (cloFrom X.env.cells scope.names []) (dVof D) c') ∧ Dfl D H' ∧ t E σ H' Q') H1 Q) := by
  refine ⟨fun pins s σ H Q I h => wpAny_Call_Name_kw (ld_glob I hg hm ?_ hdb)⟩
  refine PySem.W.callWith_K (h₀ := X.base) I.ok.mod.kin hk (thn (ha.run pos pins _ σ H _ I h) fun us s1 ⟨vs, H1, I1, r, f, c', D, ev, hc, q⟩ => ⟨I1.kIn, ?_⟩) he hpl
  subst ev
  cases r with
  | @cons _ u _ ur ru rr =>
    cases rr
    obtain rfl : u = Value.ref f := ru
    have rc := run_kind (Q := Q) lk hcg hb Sg hNg hva hG hr L (hbind D) hbody hd hcd I1 hc q
    refine wpAny_call (codeAny_mono rc fun r s2 hq => ?_)
    rcases r with e | fl
    · exact (show False from hq).elim
    · cases fl with
      | ret u => exact I1.after hq
      | next => exact hq.elim
      | brk => exact hq.elim
      | cont => exact hq.elim
/-- x(lambda ..), made as one that stands -/
theorem pe_kindL {lpos : Pos} {scope : Scope} {params : Arguments} {body : Expr} {t : XK → TE} {bs : List Str} {Dfl : Addr → Hp → Prop} {dVof : Addr → Value} (hg : Gl X x) (hm : X.mg x = some (.ref g)) (hk : PySem.W.keepIn X.K (.ref g) = true)
    (lk : X.K.lookup g = some ⟨oc, od, .func (PySem.W.fnOf x x pg bg sg dV' kV doc pm an cdv ct), osl⟩) (hcg : PySem.W.codeIn X.K cdv x = true) (hb : L2.Binds X.K (PySem.W.fnOf x x pg bg sg dV' kV doc pm an cdv ct) [a] []) (Sg : FnScope Ng [a] sg)
    (hNg : Ng[0]? = some a) (hva : Vis sg a) (hG : GivesTo X Ng x sg g cdv bg a (X.env.qual ++ "<lambda>") TT) (hr : Room (k + 2) X.A) (L : LamD X.N X.env.scope scope bs)
    (hbind : ∀ (D : Addr) (s' : Shared) (H' : Hp) (doc pm cv ctv : Value), HOk X.prog X.w H' s'.heap → Dfl D H' → ∃ binds : List (Str × Value), (∀ y ∈ binds, y.1 ∈ bs) ∧ BindsTo s' (PySem.W.kdv_fn "<lambda>" (X.env.qual ++ "<lambda>") params (.expr body) scope (cloFrom X.env.cells scope.names []) (dVof D) doc pm cv ctv) ⟨[], []⟩ binds)
    (hbody : ∀ (A : Around) (outer : List Env) (s : Shared) (H : Hp) (E : XK) (f c' : Addr), Room k (A.deeper (lamEnv X scope s.heap.objs.size f c')) → PE (lamCx X A outer s H E scope f c') body (t E)) (ha : PA X [.Lambda params body scope lpos] ta)
    (hdb : (x == ("__debug__" : Str)) = false := by decide) (hd : (a == ("__debug__" : Str)) = false := by decide) (hcd : (a == ("__classdict__" : Str)) = false := by decide)
    (he : starEach [.Lambda params body scope lpos] X.env = (false, eval (.Lambda params body scope lpos) X.env) :: starEach [] X.env := by rfl) (hpl : (backTo pos (starEach [] X.env)).any (·.1) = false := by rfl) :
    PE X (.Call (.Name x p) [.Lambda params body scope lpos] [] pos) (fun σ H Q => ta σ H fun vs H1 => ∃ f c' D : Addr, vs = [.ref f] ∧ H1 c' = some (CodeO c' (X.env.qual ++ "<lambda>")) ∧
      TT (fun E H' Q' => H' f = some (LamO f (X.env.qual ++ "<lambda>") params body scope (cloFrom X.env.cells scope.names []) (dVof D) c') ∧ Dfl D H' ∧ t E σ H' Q') H1 Q) :=
  pe_kindV hg hm hk lk hcg hb Sg hNg hva hG hr L hbind hbody ha hdb hd hcd he hpl
theorem g_lamS {T : List (Addr × Str)} {q : Str} {params : Arguments} {body : Expr} {scope : Scope} {cl : List (Str × Addr)} {σ : L2.St} {H : Hp} {Q : VK} (t : Tabs T H)
    (h : ∀ (M : Hp) (f c' : Addr), ExtN H M → Tabs T M → (∀ b o, H b = some o → (∀ ps, o ≠ .tbl ps) → b ≠ f) → M f = some (LamO f q params body scope cl .none c') → M c' = some (CodeO c' q) → Q (.ref f) M) : tLamS T q params body scope cl σ H Q := by
  refine ⟨t, fun H1 f c' x t1 nf hc => ?_⟩
  have k : ∀ b o, H1 b = some o → upd H1 f (LamO f q params body scope cl .none c') b = some o := fun b o e => by rw [upd_ne (ne_of_none e nf)]; exact e
  exact h _ f c' (x.trans (.of k)) (t1.ext k) (fun b o e n => ne_of_none (x b o e n) nf) upd_same (k _ _ hc)
theorem g_lamD {T : List (Addr × Str)} {q : Str} {params : Arguments} {body : Expr} {scope : Scope} {cl : List (Str × Addr)} {n : Int} {σ : L2.St} {H : Hp} {Q : VK} (t : Tabs T H)
    (h : ∀ (M : Hp) (f c' D : Addr), ExtN H M → Tabs T M → (∀ b o, H b = some o → (∀ ps, o ≠ .tbl ps) → b ≠ f) → M f = some (LamO f q params body scope cl (.ref D) c') → M c' = some (CodeO c' q) → M D = some (.tup [.int n]) → Q (.ref f) M) : tLamD T q params body scope cl n σ H Q := by
  refine ⟨t, fun H1 f c' D x t1 nf hc nD hD => ?_⟩
  have k : ∀ b o, H1 b = some o → upd H1 f (LamO f q params body scope cl (.ref D) c') b = some o := fun b o e => by rw [upd_ne (ne_of_none e nf)]; exact e
  exact h _ f c' D (x.trans (.of k)) (t1.ext k) (fun b o e n => ne_of_none (x b o e n) nf) upd_same (k _ _ hc) (k _ _ hD)
/-- one parameter, its default a number -/
theorem bind_one {D : Addr} {n : Int} {s' : Shared} {H' : Hp} {fd : FuncData} {y : Str} {kk : Option (Array Value) → Sem (List (Str × Value))} (ok : HOk X.prog X.w H' s'.heap) (hD : H' D = some (.tup [.int n])) (hd : fd.defaults = .ref D) (h₁ : bindArgs fd ⟨[], []⟩ = seqItems? fd.defaults >>= kk)
    (h₂ : ∀ u : Value, kk (some #[u]) = pure [(y, u)]) : ∃ binds : List (Str × Value), (∀ z ∈ binds, z.1 ∈ [y]) ∧ BindsTo s' fd ⟨[], []⟩ binds := by
  obtain ⟨_, its, r, ⟨o, ho, _, m, hdat⟩⟩ := ok D _ hD
  cases r with
  | @cons _ u _ ur ru rr =>
    cases rr
    refine ⟨[(y, u)], fun z hz => ?_, .of_defaults hd ho hdat h₁ (h₂ u)⟩
    rw [List.mem_singleton.mp hz]
    exact List.mem_singleton.mpr rfl
theorem all3 {α : Type} {Pr : α → Prop} {a b c : α} (h1 : Pr a) (h2 : Pr b) (h3 : Pr c) : ∀ x ∈ [a, b, c], Pr x := fun x hx => by
  simp only [List.mem_cons, List.not_mem_nil, or_false] at hx
  rcases hx with rfl | rfl | rfl
  · exact h1
  · exact h2
  · exact h3
/-- what is asked of a lambda without defaults -/
structure LamOk (X : Cx) (k : Nat) (al : Arguments × Expr × Scope × (XK → TE)) : Prop where
  L : LamD X.N X.env.scope al.2.2.1 []
  bind : ∀ (q : Str) (cl : List (Str × Addr)) (doc pm cv ctv : Value), bindArgs (PySem.W.kdv_fn "<lambda>" q al.1 (.expr al.2.1) al.2.2.1 cl .none doc pm cv ctv) ⟨[], []⟩ = pure []
  body : ∀ (A : Around) (outer : List Env) (s : Shared) (H : Hp) (E : XK) (f c' : Addr), Room k (A.deeper (lamEnv X al.2.2.1 s.heap.objs.size f c')) → PE (lamCx X A outer s H E al.2.2.1 f c') al.2.1 (al.2.2.2 E)
/-- f is one of these lambdas -/
def IsLam (X : Cx) (al : Arguments × Expr × Scope × (XK → TE)) (f c' : Addr) : HO := LamO f (X.env.qual ++ "<lambda>") al.1 al.2.1 al.2.2.1 (cloFrom X.env.cells al.2.2.1.names []) .none c'
/-- in a block of the def X: x(e), e one of some lambdas that stand -/
theorem pe_kindB {scope : Scope} {ce : Env} {s0 : Shared} {H0 : Hp} {fp : List Addr} {pins0 : List (Addr × Obj)} {σ0 : L2.St} {alts : List (Arguments × Expr × Scope × (XK → TE))} (I0 : Inv X pins0 σ0 H0 s0) (hfp : ∀ b ∈ fp, FpOk X pins0 H0 b)
    (hal : ∀ al ∈ alts, LamOk X k al) (hg : Gl (X.blk s0 H0 scope ce fp) x) (hm : X.mg x = some (.ref g)) (hk : PySem.W.keepIn X.K (.ref g) = true)
    (lk : X.K.lookup g = some ⟨oc, od, .func (PySem.W.fnOf x x pg bg sg dV' kV doc pm an cdv ct), osl⟩) (hcg : PySem.W.codeIn X.K cdv x = true) (hb : L2.Binds X.K (PySem.W.fnOf x x pg bg sg dV' kV doc pm an cdv ct) [a] []) (Sg : FnScope Ng [a] sg)
    (hNg : Ng[0]? = some a) (hva : Vis sg a) (hG : GivesTo X Ng x sg g cdv bg a (X.env.qual ++ "<lambda>") TT) (hr : Room (k + 2) X.A) (ha : PA (X.blk s0 H0 scope ce fp) [e] ta)
    (hdb : (x == ("__debug__" : Str)) = false := by decide) (hd : (a == ("__debug__" : Str)) = false := by decide) (hcd : (a == ("__classdict__" : Str)) = false := by decide)
    (he : starEach [e] ce = (false, eval e ce) :: starEach [] ce := by rfl) (hpl : (backTo pos (starEach [] ce)).any (·.1) = false := by rfl) :
    PE (X.blk s0 H0 scope ce fp) (.Call (.Name x p) [e] [] pos) (fun σ H Q => ta σ H fun vs H1 => ∃ al ∈ alts, ∃ f c' : Addr, vs = [.ref f] ∧ H1 c' = some (CodeO c' (X.env.qual ++ "<lambda>")) ∧ TT (fun E H' Q' => H' f = some (IsLam X al f c') ∧ al.2.2.2 E σ0 H' Q') H1 Q) := by
  refine ⟨fun pins s σ H Q I h => wpAny_Call_Name_kw (ld_glob I hg hm ?_ hdb)⟩
  refine PySem.W.callWith_K (h₀ := X.base) I.ok.mod.kin hk (thn (ha.run pos pins _ σ H _ I h) fun us s1 ⟨vs, H1, I1, r, al, hm2, f, c', ev, hc, q⟩ => ⟨I1.kIn, ?_⟩) he hpl
  subst ev
  cases r with
  | @cons _ u _ ur ru rr =>
    cases rr
    obtain rfl : u = Value.ref f := ru
    have J : Inv X pins0 σ0 H1 s1 := I0.call' (ch := fp) I1.os I1.base I1.hok I1.bare fun b hb => ⟨(hfp b hb).2.2.2.1, (hfp b hb).2.1, (hfp b hb).2.2.2.2.1, (hfp b hb).2.2.2.2.2⟩
    have A := hal al hm2
    have rc := run_kind (Q := Q) (Dfl := fun _ => True) (bs := []) (dV := .none) lk hcg hb Sg hNg hva hG hr A.L (fun s' H' doc pm cv ctv _ _ => ⟨[], ⟨fun (y : Str × Value) (hy : y ∈ []) => (List.not_mem_nil hy).elim, BindsTo.of_eq (A.bind _ _ _ _ _ _)⟩⟩) A.body hd hcd J hc (by
      have e2 : (fun E H' Q' => H' f = some (LamO f (X.env.qual ++ "<lambda>") al.1 al.2.1 al.2.2.1 (cloFrom X.env.cells al.2.2.1.names []) .none c') ∧ (fun _ => True) H' ∧ al.2.2.2 E σ0 H' Q') = (fun (E : XK) (H' : Hp) (Q' : VK) => H' f = some (IsLam X al f c') ∧ al.2.2.2 E σ0 H' Q') := by
        funext E H' Q'
        unfold IsLam
        simp
      rw [e2]; exact q)
    refine wpAny_call (codeAny_mono rc fun r s2 hq => ?_)
    rcases r with e | fl
    · exact (show False from hq).elim
    · cases fl with
      | ret u => exact I1.after hq
      | next => exact hq.elim
      | brk => exact hq.elim
      | cont => exact hq.elim
end
section
variable {X : Cx}
/-- [elt for tg in iter if tests], the tests read in the block of a def whose slots are known -/
theorem pe_lcI {elt tg iter : Expr} {ifs : List Expr} {scope : Scope} {own : List (Str × Nat)} {pos : Pos} {wi : TI} {g : TG} {tt : L2.St → TT} {te : TE} (hc : X.calm = true) (hN : X.N.Nodup) (hi : PI X tg iter wi) (ok : BlkOk X.N X.env.scope scope own)
    (hg : ∀ (s : Shared) (H : Hp) (C : Addr) (cl : List (Str × Addr)) (fp : List Addr), PG (X.blk s H scope (compEnvC scope cl C X.env) fp) tg g)
    (ht : ∀ (pins : List (Addr × Obj)) (σ : L2.St) (s : Shared) (H : Hp) (C : Addr) (cl : List (Str × Addr)) (fp : List Addr), Inv X pins σ H s → (∀ b ∈ fp, FpOk X pins H b) → PTs (X.blk s H scope (compEnvC scope cl C X.env) fp) ifs (tt σ))
    (he : ∀ (s : Shared) (H : Hp) (C : Addr) (cl : List (Str × Addr)) (fp : List Addr), PE (X.blk s H scope (compEnvC scope cl C X.env) fp) elt te) (hs : ∀ x, foldedSetIterable iter X.env x = pure x := by intro _; rfl) :
    PE X (.ListComp elt [⟨tg, iter, ifs, 0⟩] scope pos) (fun σ => tLc wi g (tt σ) te (own.map (·.2)) σ) := by
  refine ⟨fun pins s σ H Q I h => ?_⟩
  rw [eval_ListComp]
  have caps : ∀ y ∈ scope.names, y.2 = .free → ∃ c, X.env.cells.lookup y.1 = some c := fun y hy e =>
    (ok.free y hy e).elim (fun k => I.ok.has _ (.inl k)) fun k => I.ok.has _ (.inr k)
  refine wpAny_comprehension_free (use := none) rfl hs (closure_ok caps) ok.kind (fun y hy e => (ok.uniq y hy).trans (congrArg some e)) (thn (hi.run pins s σ H _ I h) fun xv s1 hx => thn hx fun itv s2 hy => ?_)
  obtain ⟨it, fp, tn, J, H2, e, I2, T, st2, f2, q⟩ := hy
  subst e
  refine wpAny_newObj_type (newEnv_comp ?_) (Nat.zero_le _)
  obtain ⟨W, ⟨m0, w0⟩, turn⟩ := q s2.heap.objs.size (I2.hok.fresh (Nat.le_refl _))
  -- the new list stands
  obtain ⟨s3, e3, I3⟩ : ∃ s3 : Shared, { s2 with heap := s2.heap.push { cls := .type "list", data := .seq ([] : List Value).toArray } } = s3 ∧ Inv X pins σ (upd H2 s2.heap.objs.size (.lst [])) s3 :=
    ⟨_, rfl, I2.laid (t' := s2.toks) (fun b o z => Heap.get?_push_of_some _ z) (Nat.le_refl _) ⟨Nat.zero_le _, [], 0, .nil, Heap.get?_push_size _ rfl⟩⟩
  have k23 : ∀ b o, s2.heap.get? b = some o → s3.heap.get? b = some o := fun b o z => by rw [← e3]; exact Heap.get?_push_of_some _ z
  have z23 : s3.heap.objs.size = s2.heap.objs.size + 1 := by rw [← e3]; exact Heap.size_push ..
  have f3 : ∀ b ∈ fp, FpOk X pins (upd H2 s2.heap.objs.size (.lst [])) b ∧ b < s3.heap.objs.size := fun b hb => by
    obtain ⟨o, z, _⟩ := T.obj _ _ st2 b hb
    have lt := Heap.lt_size z
    exact ⟨⟨by rw [upd_ne (Nat.ne_of_lt lt)]; exact (f2 b hb).1, (f2 b hb).2⟩, by rw [z23]; exact Nat.lt_succ_of_lt lt⟩
  have st3 := T.keep _ _ s3.heap st2 fun b _ o z => k23 b o z
  rw [e3]
  generalize hD : s2.heap.objs.size = D at w0 turn I3 f3
  generalize upd H2 D (.lst []) = H3 at I3 f3 w0
  have I4 := block_start I3 ok hN f3
  have pg := hg s3 H3 s3.heap.objs.size (cellsFrom (s3.heap.objs.size + 1) scope.names (cloFrom X.env.cells scope.names [])) fp
  have pt := ht pins σ s3 H3 s3.heap.objs.size (cellsFrom (s3.heap.objs.size + 1) scope.names (cloFrom X.env.cells scope.names [])) fp I3 fun b hb => (f3 b hb).1
  have pe := he s3 H3 s3.heap.objs.size (cellsFrom (s3.heap.objs.size + 1) scope.names (cloFrom X.env.cells scope.names [])) fp
  generalize hce : compEnvC scope (cellsFrom (s3.heap.objs.size + 1) scope.names (cloFrom X.env.cells scope.names [])) s3.heap.objs.size X.env = ce at I4 pg pt pe
  have cL : ce.locals = s3.heap.objs.size := by rw [← hce]; rfl
  obtain ⟨s4, e4, I4, k34⟩ : ∃ s4 : Shared, { s3 with heap := pushCells (s3.heap.push { cls := .type "dict", data := .dict #[] }) scope.names } = s4 ∧ Inv (X.blk s3 H3 scope ce fp) [] (wipe σ (own.map (·.2))) H3 s4 ∧ ∀ b o, s3.heap.get? b = some o → s4.heap.get? b = some o :=
    ⟨_, rfl, I4, fun b o z => pushCells_keeps _ _ _ _ (Heap.get?_push_of_some _ z)⟩
  have st4 := T.keep _ _ s4.heap st3 fun b _ o z => k34 b o z
  have stat : ∀ {σ' : L2.St} {H' : Hp} {s' : Shared}, Inv (X.blk s3 H3 scope ce fp) [] σ' H' s' → (∀ b ∈ fp, H' b = none) → ∀ b ∈ fp, FpOk (X.blk s3 H3 scope ce fp) [] H' b := fun {σ' H' s'} I' hn b hb => by
    obtain ⟨x1, x2⟩ := I'.ok.exf b hb
    refine ⟨hn b hb, x1, I'.ok.exfs b hb, .inl hb, fun x c z => x2 x c z, fun p hp => ?_⟩
    replace hp : p ∈ ([] : List (Addr × Obj)) ++ [] := hp
    simp at hp
  have loop : codeAny (model X.prog X.w) X.A (.compLoop (.ListComp elt [⟨tg, iter, ifs, 0⟩] scope pos) 0 (.ref it) (.ref D) ce) (compPost (model X.prog X.w) X.A X.xe none (EP X pins σ Q) (.ref D) s3.heap.objs.size) s4 := by
    refine compLoop_any (fun n s' => ∃ i H', Inv (X.blk s3 H3 scope ce fp) [] (wipe σ (own.map (·.2))) H' s' ∧ tn i s'.heap ∧ (∀ b ∈ fp, H' b = none) ∧ W i n H') (fun n s5 ⟨i, H5, I5, st5, n5, w5⟩ => ?_) m0 ⟨0, H3, I4, st4, fun b hb => (f3 b hb).1.1, w0⟩
    rcases turn i n H5 w5 with ⟨stop, qq⟩ | ⟨go, Nx, hNx, step⟩
    · refine thnF (T.done (X.blk s3 H3 scope ce fp) rfl rfl rfl hc i [] s5 _ H5 (fun _ _ => False) I5 (stat I5 n5) st5 stop) fun r s6 ⟨hr, I6⟩ => ?_
      subst hr
      have I7 : Inv X pins σ H5 s6 := I3.call' (ch := fp) I6.os I6.base I6.hok I6.bare fun b hb => let z := (f3 b hb).1.2; ⟨z.2.2.1, z.1, z.2.2.2.1, z.2.2.2.2⟩
      obtain ⟨m, hn, _⟩ := I6.loc
      replace hn : s6.heap.Ns ce.locals m := hn
      have nC : H5 ce.locals = none := I6.free
      rw [cL] at hn nC
      have F := I3.fpOk (Nat.le_refl _) nC
      exact ⟨m, hn, fun h'' sb => ⟨.ref D, H5, I7.turned (t' := s6.toks) (fun b o hb z => (sb.2 b hb).trans z) F.1 F.2.1 F.2.2.2.1 F.2.2.2.2.1 F.2.2.2.2.2, rfl, qq⟩⟩
    · refine thnF (T.item (X.blk s3 H3 scope ce fp) rfl rfl rfl hc i [] s5 _ H5 (fun _ _ => False) I5 (stat I5 n5) st5 go) fun r s6 ⟨u, hr, h6⟩ => ?_
      subst hr
      refine thnF h6 fun _ s7 ⟨x, H7, I7, r7, y7, st7, n7⟩ => ?_
      refine thnF (pg.run _ s7 _ H7 x u _ (I7.pinned (stat I7 n7) (T.obj _ _ st7)) r7 (step x H7 y7)) fun _ s8 ⟨σ8, H8, I8, hw8, q8⟩ => ?_
      refine thnF (pt.run _ s8 σ8 H8 _ I8 q8) fun b s9 ⟨H9, I9, q9⟩ => ?_
      have fin : ∀ {s' : Shared} {H' : Hp}, Inv (X.blk s3 H3 scope ce fp) ([] ++ pinsAt fp s7.heap) σ8 H' s' → Nx H' → ∃ m, m < n ∧ ∃ i H', Inv (X.blk s3 H3 scope ce fp) [] (wipe σ (own.map (·.2))) H' s' ∧ tn i s'.heap ∧ (∀ b ∈ fp, H' b = none) ∧ W i m H' := fun {s' H'} I' nx => by
        have held : ∀ b ∈ fp, ∀ o, s7.heap.get? b = some o → s'.heap.get? b = some o ∧ H' b = none := fun b hb o z =>
          let y := I'.pin (b, o) (List.mem_append_right _ (List.mem_append_right _ (mem_pinsAt hb z)))
          ⟨y.1, y.2.1⟩
        refine (hNx H' nx).elim fun m' hm => ⟨m', hm.1, i + 1, H', (I'.unpinned (pins := [])).weak (by rw [← hw8, wipe_length]) (fun j v z => ?_), T.keep _ _ _ st7 fun b hb o z => (held b hb o z).1, fun b hb => ?_, hm.2⟩
        · rw [← hw8] at z
          exact (wipe_some z).1
        · exact (T.obj _ _ st7 b hb).elim fun o z => (held b hb o z.1).2
      cases b
      · simp only [if_false, Bool.false_eq_true] at q9 ⊢
        exact fin I9 q9
      · simp only [if_true, if_pos] at q9 ⊢
        exact thnF (pe.run _ s9 σ8 H9 _ I9 q9) fun z s10 ⟨yv, H10, I10, r10, acc, hD10, hz10, nx⟩ => app_ok (X := X.blk s3 H3 scope ce fp) I10 hD10 hz10 r10 fun s11 I11 => fin I11 nx
  rw [← e4] at loop st4
  subst hce
  exact codeAny_compStart_list loop (T.self X.A 0 _ _ _ st4 loop)
end
end LamY
/-! enumerate in a for; making a thing whose __init__ may refuse; what stands behind a refusal that comes for sure. -/
namespace Wd
open PySem PySem.Spec PyProof.Rows L2
section
variable {σ : L2.St} {H : Hp} {K : PySem.W.Frag}
theorem w_enum {a : L2.St → Hp → Prop} {b : VK} {g : TG} {tb : TS} {p : Addr} {xs : List V} (Pv : Nat → L2.St → Hp → Prop) (h0 : Pv 0 σ H) (hq : ∀ i σ H, i ≤ xs.length → Pv i σ H → SqL K H p xs)
    (hs : ∀ i x T σ H, xs[i]? = some x → Pv i σ H → H T = none → g (.ref T) σ (upd H T (.tup [.int (i : Nat), x])) fun σ2 H2 => tb ⟨Pv (i + 1), b, a, Pv (i + 1)⟩ σ2 H2) (hd : ∀ σ H, Pv xs.length σ H → a σ H) :
    ∃ q ys, [V.ref p] = [V.ref q] ∧ SqL K H q ys ∧ ForEnd g tb a b σ (Ite K q) H := by
  refine ⟨p, xs, rfl, hq 0 σ H (Nat.zero_le _) h0, for_it (D := ⟨a, b, fun _ _ => False, fun _ _ => False⟩) walk_enum Pv h0 hq (fun i v σ H H' hi pv y => ?_) hd⟩
  obtain ⟨T, x, y, rfl, hT, rfl, e1, e2⟩ := y
  cases e1
  exact hs i y T σ H e2 pv hT
theorem g_enum {ta : TA} {R : It → Hp → Prop} (h : ta σ H fun vs H1 => ∃ a xs, vs = [.ref a] ∧ SqL K H1 a xs ∧ R (Ite K a) H1) : iEnum K ta σ H R := h
end
/-- a class whose __init__ may refuse -/
structure MakX (P : Program) (w : World) (K : PySem.W.Frag) (mg : Str → Option Value) (base : Heap) (k : Nat) (x : Str) (C : Addr) (sp : Sp) : Prop where
  ex : ∃ (f : Addr) (fd : FuncData) (ps : List Str), Mk K C f ∧ FnOk P w K mg base (L2.CX P w) k f fd ps sp ∧ mg x = some (.ref C) ∧ Binds K fd ps []
section
variable {X : Cx} {k j : Nat} {x : Str} {C : Addr} {sp : Sp} {p pos : Pos} {e : Expr} {es : List Expr} {t : TA} {E : XK}
theorem pe_mkX (c : MakX X.prog X.w X.K X.mg X.base k x C sp) (hr : Room j X.A) (hk : k + 1 ≤ j) (hg : Gl X x) (hx : Passes (L2.CX X.prog X.w) X E) (ha : PA X (e :: es) t)
    (hdb : (x == ("__debug__" : Str)) = false := by decide) (he : starEach (e :: es) X.env = (false, eval e X.env) :: starEach es X.env := by rfl) (hpl : (backTo pos (starEach es X.env)).any (·.1) = false := by rfl) :
    PE X (.Call (.Name x p) (e :: es) [] pos) (tMake C sp [] E t) := by
  obtain ⟨f, fd, ps, M, F, hm, b⟩ := c.ex
  exact pe_make M F (hr.mono hk) hg hm b .nil hx ha hdb he hpl
/-- never come to -/
theorem pss_cut {ss : List Stmt} : PSs X ss (fun _ _ _ => False) := ⟨fun _ _ _ _ _ _ h => h.elim⟩
end
section
variable {P : Program} {w : World} {K : PySem.W.Frag} {mg : Str → Option Value} {base : Heap}
theorem makX {x qual : Str} {C : Addr} {st : Stmt} {f : Addr} {fd : FuncData} {N ps : List Str} {k : Nat} {sp : Sp} (M : Mk K C f) (hm : mg x = some (.ref C)) (F : C8.Fun K "__init__" qual st f fd) (b : Binds K fd ps []) (S : FnScope N ps (C8.fnScope st)) (len : ∀ vs H Q E, sp vs H Q E → vs.length = ps.length)
    (body : ∀ (cdv : Value) (A : Around) (outer : List Env) (s : Shared) (H : Hp) (vs : List V) (Q : VK) (E : XK), Room k (A.deeper (envOfC qual (C8.fnScope st) s.heap.objs.size f cdv)) → sp vs H Q E →
      ∃ t, PSs (cxOf (L2.CX P w) P w K mg base N qual (C8.fnScope st) f cdv A outer s H E) (C8.fnBody st) t ∧ t { nx := fun _ H' => Q .non H', rt := Q } (L2.start N vs) H) : MakX P w K mg base (k + 1) x C sp := by
  refine ⟨f, fd, ps, M, ?_, hm, b⟩
  obtain ⟨oc, od, dV, kV, doc, pm, an, cdv, ct, osl, rfl, lk, hcd⟩ := F.ex
  exact fn_of lk hcd S len fun A outer s H vs Q E hr hsp => body cdv A outer s H vs Q E hr hsp
end
end Wd
namespace K07
open PySem PySem.Spec PyProof.Rows L2 Wd
def top (i : Nat) : Stmt := PySem.Challenge.pw_windowdog_k07_plans_with_pats.main.body.getD i (.Pass ⟨0, 0, 0, 0⟩)
/-- the built-in names that the text calls -/
structure Txt (K : PySem.W.Frag) (mg : Str → Option Value) : Prop where
  n_isinstance : mg "isinstance" = none
  n_len : mg "len" = none
  n_int : mg "int" = none
  n_bool : mg "bool" = none
  n_range : mg "range" = none
  n_list : mg "list" = none
  n_tuple : mg "tuple" = none
  n_str : mg "str" = none
  n_sum : mg "sum" = none
section
variable {P : Program} {w : World} {K : PySem.W.Frag} {mg : Str → Option Value} {base : Heap}
abbrev s_law_start : Stmt := top 39
theorem sc_law_start : FnScope ["_law_script", "_law_mixed", "_law_cell"] ["_law_script"] (C8.fnScope s_law_start) := C8.fnScope_by (by decide +kernel)
def sp_start (K : PySem.W.Frag) : Sp := fun vs H Q _ => ∃ (B : Hp) (sc : Addr) (ns : List Int), vs = [.ref sc] ∧ SqL K B sc (ns.map V.int) ∧ Same B H ∧ ns.length ≤ 63 ∧ ∀ H' S, H S = none → Same H H' → Dst K B H' S → Q (.ref S) H'
theorem ok_start (T : Txt K mg) {f : Addr} {fd : FuncData} (D : C8.Def K mg "_law_start" s_law_start f fd) (b : Binds K fd ["_law_script"] []) : C8.Cal P w K mg base 1 "_law_start" (sp_start K) [] := by
  refine C8.cal0 D b .nil sc_law_start (fun vs H Q E h => ?_) fun cdv A outer s H vs Q E hr h => ?_
  · obtain ⟨B, sc, ns, rfl, _⟩ := h; rfl
  · obtain ⟨B, sc, ns, rfl, hB, sB, hl, q⟩ := h
    have hS := list_same sB hB
    have nd := sc_law_start.nd
    refine ⟨_, (pss_cons (ps_set (i := 1) nd rfl (Or.inl rfl) pe_int)
      (pss_cons (ps_for PassesOwn.never rfl (pi_list (pv 0)) (pg_name (i := 2) nd rfl (Or.inl rfl)) (pss_one (ps_set (i := 1) nd rfl (Or.inl rfl) (pe_op op_mod (pe_op op_add (pe_op op_add (pe_op op_mulW (pv 1) pe_int) (pv 2)) pe_int) pe_int))))
      (pss_one (ps_ret (pe_lst (pa_cons (pv 0) (pa_cons pe_int (pa_cons (pv 1) (pa_cons pe_int pa_nil))))))))), ?_⟩
    walk_at "go"
    refine w_list (xs := ns.map V.int) (fun i σ H' => H' = H ∧ ∃ (m : Int) (v : Option V), σ = [some (.ref sc), some (.int m), v] ∧ 0 ≤ m ∧ m < 2147483647) ?_ ?_ ?_ ?_
    · exact ⟨rfl, 1, none, rfl, by decide, by decide⟩
    · rintro i σ H' _ ⟨rfl, _⟩; exact hS
    · rintro i x σ H' hx ⟨rfl, m, v, rfl, h1, h2⟩
      obtain ⟨c, hc, rfl⟩ := map_at hx
      walk_at "go"
      refine g_I (mulW_small h1 (by omega) (by decide) (by decide)) ?_
      walk_at "go"
      refine g_I (show (0 : Int) < 2147483647 by decide) ?_
      walk_at "go"
      exact ⟨rfl, _, _, rfl, by omega, by omega⟩
    · rintro σ H' ⟨rfl, m, v, rfl, h1, h2⟩
      walk_at "go"
      intro S hn
      exact q _ S hn (same_new hn) ⟨sc, ns, 0, m, 0, upd_same, .of hB (fun _ _ h => h) (Same.back sB hn), .of (sB.trans (same_new hn)), hl, by decide, h1, h2⟩

abbrev s_law_drawn : Stmt := top 40
theorem sc_law_drawn : FnScope ["_law_state", "_law_many", "_law_found", "_law_cell"] ["_law_state", "_law_many"] (C8.fnScope s_law_drawn) := C8.fnScope_by (by decide +kernel)
def sp_drawn (K : PySem.W.Frag) : Sp := fun vs H Q _ => ∃ (B : Hp) (S : Addr) (n : Int), vs = [.ref S, .int n] ∧ Dst K B H S ∧ 0 < n ∧ n < 10 ^ 38 ∧ ∀ H' v, Frm S H H' → Dst K B H' S → 0 ≤ v → v < n → Q (.int v) H'
theorem ok_drawn (T : Txt K mg) {f : Addr} {fd : FuncData} (D : C8.Def K mg "_law_drawn" s_law_drawn f fd) (b : Binds K fd ["_law_state", "_law_many"] []) : C8.Cal P w K mg base 1 "_law_drawn" (sp_drawn K) [] := by
  refine C8.cal0 D b .nil sc_law_drawn (fun vs H Q E h => ?_) fun cdv A outer s H vs Q E hr h => ?_
  · obtain ⟨B, S, n, rfl, _⟩ := h; rfl
  · obtain ⟨B, S, n, rfl, ⟨sc, ns, c, m, r, hS, hsB, fB, hl, c0, m0, m1⟩, n0, n1, q⟩ := h
    have hsc := hsB.frm fB
    have nd := sc_law_drawn.nd
    refine ⟨_, (pss_cons (ps_if (pt_cmpR op_gt (pe_ix (r := rIxL K) ix_list (pv 0) pe_int (fun _ _ => rfl)) pe_int (nomark _)) (pss_cons (ps_set (i := 2) nd rfl (Or.inl rfl) (pe_op op_mod (pe_ix (r := rIxL K) ix_list (pv 0) pe_int (fun _ _ => rfl)) (pv 1)))
      (pss_cons (ps_asg (pe_op op_fdivW (pe_ix (r := rIxL K) ix_list (pv 0) pe_int (fun _ _ => rfl)) (pv 1)) (pg_sub (pv 0) pe_int set_list))
      (pss_one (ps_ret (pv 2))))) pss_nil)
      (pss_cons (ps_asg (pe_op op_add (pe_ix (r := rIxL K) ix_list (pv 0) pe_int (fun _ _ => rfl)) pe_int) (pg_sub (pv 0) pe_int set_list))
      (pss_cons (ps_if (pt_cmpR op_le (pe_ix (r := rIxL K) ix_list (pv 0) pe_int (fun _ _ => rfl)) (pe_callB (r := Wd.rLen K) call_len1 (by rfl) T.n_len PySem.boot_len (pa_cons (pe_ix (r := rIxL K) ix_list (pv 0) pe_int (fun _ _ => rfl)) pa_nil)) (nomark _)) (pss_cons (ps_set (i := 3) nd rfl (Or.inl rfl) (pe_ix (r := rIxL K) ix_list (pe_ix (r := rIxL K) ix_list (pv 0) pe_int (fun _ _ => rfl)) (pe_op op_sub (pe_ix (r := rIxL K) ix_list (pv 0) pe_int (fun _ _ => rfl)) pe_int) (fun _ _ => rfl)))
      (pss_cons (ps_asg (pe_ifExp (pt_cmpR op_ge (pv 3) (pe_op op_pow pe_int pe_int) (nomark _)) (pe_op op_fdivW (pv 3) (pv 1)) pe_int) (pg_sub (pv 0) pe_int set_list))
      (pss_one (ps_ret (pe_op op_mod (pv 3) (pv 1)))))) pss_nil)
      (pss_cons (ps_asg (pe_op op_mod (pe_op op_add (pe_op op_mulW (pe_ix (r := rIxL K) ix_list (pv 0) pe_int (fun _ _ => rfl)) pe_int) pe_int) pe_int) (pg_sub (pv 0) pe_int set_list))
      (pss_one (ps_ret (pe_op op_mod (pe_op op_fdivW (pe_ix (r := rIxL K) ix_list (pv 0) pe_int (fun _ _ => rfl)) pe_int) (pv 1)))))))), ?_⟩
    walk_at "go"
    refine g_ixL (SqL.of hS) rfl ?_
    walk_at "go"
    refine g_ite (fun hr0 => ?_) (fun hr0 => ?_)
    · walk_at "go"
      refine g_ixL (SqL.of hS) rfl ?_
      walk_at "go"
      refine g_I n0 ?_
      walk_at "go"
      refine g_ixL (SqL.of hS) rfl ?_
      walk_at "go"
      refine g_I (divW_small n0 n1) ?_
      walk_at "go"
      refine g_setL hS rfl ?_
      walk_at "go"
      exact q _ _ .set ⟨sc, ns, c, m, r / n, upd_same, hsB, fB.trans .set, hl, c0, m0, m1⟩ (Int.emod_nonneg _ (by omega)) (Int.emod_lt_of_pos _ n0)
    · walk_at "go"
      refine g_ixL (SqL.of hS) rfl ?_
      walk_at "go"
      refine g_setL hS rfl ?_
      walk_at "go"
      refine g_ixL (SqL.of upd_same) rfl ?_
      walk_at "go"
      refine g_ixL (SqL.of upd_same) rfl ?_
      walk_at "go"
      refine g_len (.inl (hsc.frm .set).sq) ?_
      walk_at "go"
      rw [List.length_map]
      refine g_ite (fun hc => ?_) (fun hc => ?_)
      · walk_at "go"
        refine g_ixL (SqL.of upd_same) rfl ?_
        walk_at "go"
        refine g_ixL (SqL.of upd_same) rfl ?_
        walk_at "go"
        have hcl : c.toNat < ns.length := by omega
        refine g_ixL (hsc.frm .set).sq (at_of (j := c.toNat) (v := V.int (ns[c.toNat]'hcl)) (by omega) (by rw [List.getElem?_map, List.getElem?_eq_getElem hcl]; rfl)) ?_
        generalize ns[c.toNat]'hcl = z
        walk_at "go"
        refine g_I (pow_small (by decide) (by decide) (by decide)) ?_
        walk_at "go"
        have fin : ∀ x : Int, Frm S H (upd (upd H S (HO.lst [V.ref sc, V.int (c + 1), V.int m, V.int r])) S (HO.lst [V.ref sc, V.int (c + 1), V.int m, V.int x])) ∧ Dst K B (upd (upd H S (HO.lst [V.ref sc, V.int (c + 1), V.int m, V.int r])) S (HO.lst [V.ref sc, V.int (c + 1), V.int m, V.int x])) S := fun x =>
          ⟨Frm.set.trans .set, sc, ns, c + 1, m, x, upd_same, hsB, (fB.trans .set).trans .set, hl, by omega, m0, m1⟩
        refine g_ite (fun hz => ?_) (fun hz => ?_)
        · walk_at "go"
          refine g_I (divW_small n0 n1) ?_
          walk_at "go"
          refine g_setL upd_same rfl ?_
          walk_at "go"
          refine g_I n0 ?_
          exact q _ _ (fin _).1 (fin _).2 (Int.emod_nonneg _ (by omega)) (Int.emod_lt_of_pos _ n0)
        · walk_at "go"
          refine g_setL upd_same rfl ?_
          walk_at "go"
          refine g_I n0 ?_
          exact q _ _ (fin _).1 (fin _).2 (Int.emod_nonneg _ (by omega)) (Int.emod_lt_of_pos _ n0)
      · walk_at "go"
        refine g_ixL (SqL.of upd_same) rfl ?_
        walk_at "go"
        refine g_I (mulW_small m0 (by omega) (by decide) (by decide)) ?_
        walk_at "go"
        refine g_I (show (0 : Int) < 2147483647 by decide) ?_
        walk_at "go"
        refine g_setL upd_same rfl ?_
        walk_at "go"
        refine g_ixL (SqL.of upd_same) rfl ?_
        walk_at "go"
        refine g_I (divW_small (by decide) (by decide)) ?_
        walk_at "go"
        refine g_I n0 ?_
        exact q _ _ (Frm.set.trans .set) ⟨sc, ns, c + 1, _, r, upd_same, hsB, (fB.trans .set).trans .set, hl, by omega, Int.emod_nonneg _ (by decide), Int.emod_lt_of_pos _ (by decide)⟩ (Int.emod_nonneg _ (by omega)) (Int.emod_lt_of_pos _ n0)
theorem use_drawn {B H : Hp} {S : Addr} {n : Int} {Q : VK} {E : XK} (d : Dst K B H S) (h0 : 0 < n) (h1 : n < 10 ^ 38) (k : ∀ H' v, Frm S H H' → Dst K B H' S → 0 ≤ v → v < n → Q (.int v) H') : sp_drawn K ([.ref S, .int n] ++ []) H Q E := ⟨B, S, n, rfl, d, h0, h1, k⟩

abbrev s_law_same : Stmt := top 41
theorem sc_law_same : FnScope ["_law_found", "_law_due", "_law_k"] ["_law_found", "_law_due"] (C8.fnScope s_law_same) := C8.fnScope_by (by decide +kernel)
/-- two things of the same data: told to be the same -/
def sp_same (K : PySem.W.Frag) : Nat → Sp
  | 0 => fun _ _ _ _ => False
  | n + 1 => fun vs H Q _ => ∃ (x y : V) (d : PyData), vs = [x, y] ∧ Dp K H x d ∧ Dp K H y d ∧ OkD n d ∧ ∀ H', Same H H' → Q (.bl true) H'
theorem same_step (T : Txt K mg) {n : Nat} {f : Addr} {fd : FuncData} (D : C8.Def K mg "_law_same" s_law_same f fd) (b : Binds K fd ["_law_found", "_law_due"] []) (g_law_same : C8.Cal P w K mg base n "_law_same" (sp_same K n) []) : C8.Cal P w K mg base (n + 1) "_law_same" (sp_same K (n + 1)) [] := by
  refine C8.cal0 D b .nil sc_law_same (fun vs H Q E h => ?_) fun cdv A outer s H vs Q E hr h => ?_
  · obtain ⟨x, y, d, rfl, _⟩ := h; rfl
  · obtain ⟨x, y, d, rfl, hx, hy, ok, q⟩ := h
    have nd := sc_law_same.nd
    have hr : Room n _ := hr
    refine ⟨_, (pss_cons (ps_if (pt_val (pe_callB (r := rIsiT K) call_isiT (by rfl) T.n_isinstance (by decide +kernel) (pa_cons (pv 1) (pa_cons (pe_tup (pa_cons (pe_bltn (v := .ty "tuple") (by rfl) T.n_tuple (by decide +kernel) rfl) (pa_cons (pe_bltn (v := .ty "list") (by rfl) T.n_list (by decide +kernel) rfl) pa_nil))) pa_nil)))) (pss_cons (ps_if (PW.pt (pw_or (pt_not (pt_val (pe_callB (r := rIsiT K) call_isiT (by rfl) T.n_isinstance (by decide +kernel) (pa_cons (pv 0) (pa_cons (pe_tup (pa_cons (pe_bltn (v := .ty "tuple") (by rfl) T.n_tuple (by decide +kernel) rfl) (pa_cons (pe_bltn (v := .ty "list") (by rfl) T.n_list (by decide +kernel) rfl) pa_nil))) pa_nil))))) (pw_or1 (pt_cmpR op_ne (pe_callB (r := rIsi K) call_isi (by rfl) T.n_isinstance (by decide +kernel) (pa_cons (pv 0) (pa_cons (pe_bltn (v := .ty "list") (by rfl) T.n_list (by decide +kernel) rfl) pa_nil))) (pe_callB (r := rIsi K) call_isi (by rfl) T.n_isinstance (by decide +kernel) (pa_cons (pv 1) (pa_cons (pe_bltn (v := .ty "list") (by rfl) T.n_list (by decide +kernel) rfl) pa_nil))) (nomark _))))) (pss_one (ps_ret pe_bl)) pss_nil)
      (pss_cons (ps_if (pt_cmpR op_ne (pe_callB (r := Wd.rLen K) call_len1 (by rfl) T.n_len PySem.boot_len (pa_cons (pv 0) pa_nil)) (pe_callB (r := Wd.rLen K) call_len1 (by rfl) T.n_len PySem.boot_len (pa_cons (pv 1) pa_nil)) (nomark _)) (pss_one (ps_ret pe_bl)) pss_nil)
      (pss_one (ps_ret (pe_cmpR (r := rEqD K) (op_eqD hr.units) (pe_lc (own := [("_law_k", 2)]) (g := gName 2) rfl nd (pi_range1 rfl T.n_range (pa_cons (pe_callB (r := Wd.rLen K) call_len1 (by rfl) T.n_len PySem.boot_len (pa_cons (pv 1) pa_nil)) pa_nil)) (blkOk_by (N := ["_law_found", "_law_due", "_law_k"]) (sc := C8.fnScope s_law_same) (by decide +kernel)) (fun _ _ _ _ _ => pg_name (i := 2) nd rfl (Or.inl rfl)) (fun _ _ _ _ _ => pts_one (pt_not (pt_val (C8.pe_c g_law_same hr (by first | decide | exact Nat.le_refl _ | omega) (by rfl) (pa_cons (pe_ix (r := rIx K) ix_seq (pv 0) (pv 2) (fun _ _ => rfl)) (pa_cons (pe_ix (r := rIx K) ix_seq (pv 1) (pv 2) (fun _ _ => rfl)) pa_nil)))))) (fun _ _ _ _ _ => (pv 2))) (pe_lst pa_nil) (nomark _)))))) pss_nil)
      (pss_cons (ps_if (pt_cmpR op_isN1 (pv 1) pe_non (nomark _)) (pss_one (ps_ret (pe_cmpR op_isN1 (pv 0) pe_non (nomark _)))) pss_nil)
      (pss_cons (ps_if (pt_val (pe_callB (r := rIsi K) call_isi (by rfl) T.n_isinstance (by decide +kernel) (pa_cons (pv 1) (pa_cons (pe_bltn (v := .ty "str") (by rfl) T.n_str (by decide +kernel) rfl) pa_nil)))) (pss_one (ps_ret (pe_and (pe_callB (r := rIsi K) call_isi (by rfl) T.n_isinstance (by decide +kernel) (pa_cons (pv 0) (pa_cons (pe_bltn (v := .ty "str") (by rfl) T.n_str (by decide +kernel) rfl) pa_nil))) (pe_one (pe_cmpR op_eq (pv 0) (pv 1) (nomark _)))))) pss_nil)
      (pss_cons (ps_if (PW.pt (pw_or (pt_val (pe_callB (r := rIsi K) call_isi (by rfl) T.n_isinstance (by decide +kernel) (pa_cons (pv 1) (pa_cons (pe_bltn (v := .ty "bool") (by rfl) T.n_bool (by decide +kernel) rfl) pa_nil)))) (pw_or1 (pt_val (pe_callB (r := rIsi K) call_isi (by rfl) T.n_isinstance (by decide +kernel) (pa_cons (pv 0) (pa_cons (pe_bltn (v := .ty "bool") (by rfl) T.n_bool (by decide +kernel) rfl) pa_nil))))))) (pss_one (ps_ret (pe_and (pe_callB (r := rIsi K) call_isi (by rfl) T.n_isinstance (by decide +kernel) (pa_cons (pv 1) (pa_cons (pe_bltn (v := .ty "bool") (by rfl) T.n_bool (by decide +kernel) rfl) pa_nil))) (pe_and (pe_callB (r := rIsi K) call_isi (by rfl) T.n_isinstance (by decide +kernel) (pa_cons (pv 0) (pa_cons (pe_bltn (v := .ty "bool") (by rfl) T.n_bool (by decide +kernel) rfl) pa_nil))) (pe_one (pe_cmpR op_eq (pv 0) (pv 1) (nomark _))))))) pss_nil)
      (pss_one (ps_ret (pe_and (pe_callB (r := rIsi K) call_isi (by rfl) T.n_isinstance (by decide +kernel) (pa_cons (pv 0) (pa_cons (pe_bltn (v := .ty "int") (by rfl) T.n_int (by decide +kernel) rfl) pa_nil))) (pe_one (pe_cmpR op_eq (pv 0) (pv 1) (nomark _)))))))))), ?_⟩
    walk_at "go"
    intro t1 ht1
    walk_at "go"
    have s1 := same_new (o := .tup [.ty "tuple", .ty "list"]) ht1
    have cls : Paired ClsV [.ty "tuple", .ty "list"] [.type "tuple", .type "list"] := .cons (.ty _) (.cons (.ty _) .nil)
    have hy1 := Dp_same s1 d y hy
    have hx1 := Dp_same s1 d x hx
    cases ok with
    | non =>
      cases hy1; cases hx1
      refine g_isiT upd_same cls (.base .non) (kit2 (r1 := false) (r2 := false) (by decide +kernel) (by decide +kernel)) ?_
      walk_at "go"
      exact q _ s1
    | str z =>
      cases hy1; cases hx1
      refine g_isiT upd_same cls (.base (.str _)) (kit2 (r1 := false) (r2 := false) (by decide +kernel) (by decide +kernel)) ?_
      walk_at "go"
      refine g_isiB (.ty _) (.base (.str _)) (b := true) (by decide +kernel) ?_
      walk_at "go"
      refine g_isiB (.ty _) (.base (.str _)) (b := true) (by decide +kernel) ?_
      walk_at "go"
      rw [decide_eq_true rfl]
      exact q _ s1
    | bl z =>
      cases hy1; cases hx1
      refine g_isiT upd_same cls (.base (.bl _)) (kit2 (r1 := false) (r2 := false) (by decide +kernel) (by decide +kernel)) ?_
      walk_at "go"
      refine g_isiB (.ty _) (.base (.bl _)) (b := false) (by decide +kernel) ?_
      walk_at "go"
      refine g_isiB (.ty _) (.base (.bl _)) (b := true) (by decide +kernel) ?_
      walk_at "go"
      refine g_isiB (.ty _) (.base (.bl _)) (b := true) (by decide +kernel) ?_
      walk_at "go"
      refine g_isiB (.ty _) (.base (.bl _)) (b := true) (by decide +kernel) ?_
      walk_at "go"
      rw [beq_self_eq_true]
      exact q _ s1
    | int z =>
      cases hy1; cases hx1
      refine g_isiT upd_same cls (.base (.int _)) (kit2 (r1 := false) (r2 := false) (by decide +kernel) (by decide +kernel)) ?_
      walk_at "go"
      refine g_isiB (.ty _) (.base (.int _)) (b := false) (by decide +kernel) ?_
      walk_at "go"
      refine g_isiB (.ty _) (.base (.int _)) (b := false) (by decide +kernel) ?_
      walk_at "go"
      refine g_isiB (.ty _) (.base (.int _)) (b := false) (by decide +kernel) ?_
      walk_at "go"
      refine g_isiB (.ty _) (.base (.int _)) (b := true) (by decide +kernel) ?_
      walk_at "go"
      rw [decide_eq_true rfl]
      exact q _ s1
    | @lst m ds hl hd =>
      cases hy1 with
      | @lst ay ys _ sy py =>
      cases hx1 with
      | @lst ax xs _ sx px =>
      refine g_isiT upd_same cls (ty_list sy) (kit2 (r1 := false) (r2 := true) (by decide +kernel) (by decide +kernel)) ?_
      walk_at "go"
      intro t2 ht2
      have s2 := s1.trans (same_new (o := .tup [.ty "tuple", .ty "list"]) ht2)
      have e2 := same_new (o := .tup [.ty "tuple", .ty "list"]) ht2
      walk_at "go"
      refine g_isiT upd_same cls (ty_list (list_same e2 sx)) (kit2 (r1 := false) (r2 := true) (by decide +kernel) (by decide +kernel)) ?_
      walk_at "go"
      refine g_isiB (.ty _) (ty_list (list_same e2 sx)) (b := true) (by decide +kernel) ?_
      walk_at "go"
      refine g_isiB (.ty _) (ty_list (list_same e2 sy)) (b := true) (by decide +kernel) ?_
      walk_at "go"
      refine g_len (.inl (list_same e2 sx)) ?_
      walk_at "go"
      refine g_len (.inl (list_same e2 sy)) ?_
      walk_at "go"
      rw [DpAll.len px, DpAll.len py]
      refine g_iteN (fun hh => absurd rfl hh) (fun _ => ?_)
      walk_at "go"
      refine g_len (.inl (list_same e2 sy)) ?_
      walk_at "go"
      rw [DpAll.len py]
      refine w_lcRange (by omega) (by omega) (fun D i H' => Same (upd H t1 (.tup [.ty "tuple", .ty "list"])) H' ∧ H' D = some (.lst [])) ?_ ?_ ?_
      · intro D hD
        exact ⟨e2.trans (same_new hD), upd_same⟩
      · rintro D i H' hD hi ⟨sm, eD⟩
        have hi' : i < ds.length := by omega
        have hdi : ds[i]? = some ds[i] := List.getElem?_eq_getElem hi'
        obtain ⟨vx, hvx, dvx⟩ := DpAll.at px hdi
        obtain ⟨vy, hvy, dvy⟩ := DpAll.at py hdi
        walk_at "go"
        refine ⟨rfl, ?_⟩
        walk_at "go"
        refine .inl ⟨ax, xs, _, vx, rfl, rfl, list_same sm sx, at_of (j := i) rfl hvx, ?_⟩
        walk_at "go"
        refine .inl ⟨ay, ys, _, vy, rfl, rfl, list_same sm sy, at_of (j := i) rfl hvy, ?_⟩
        walk_at "go"
        refine ⟨vx, vy, ds[i], rfl, Dp_same sm _ _ dvx, Dp_same sm _ _ dvy, hd _ (List.getElem_mem hi'), fun H3 s3 => ?_⟩
        walk_at "go"
        exact ⟨sm.trans s3, s3 _ _ eD⟩
      · rintro D H' hD ⟨sm, eD⟩
        walk_at "go"
        intro z hz
        walk_at "go"
        refine g_eqLI (ns := []) (ms := []) (SqL.of (same_new hz _ _ eD)) (SqL.of upd_same) ?_
        walk_at "go"
        exact q _ ((s1.trans sm).trans (same_new hz))
    | @tup m ds hl hd =>
      cases hy1 with
      | @tup ay ys _ sy py =>
      cases hx1 with
      | @tup ax xs _ sx px =>
      refine g_isiT upd_same cls (ty_tup sy) (kit2 (r1 := true) (r2 := false) (by decide +kernel) (by decide +kernel)) ?_
      walk_at "go"
      intro t2 ht2
      have s2 := s1.trans (same_new (o := .tup [.ty "tuple", .ty "list"]) ht2)
      have e2 := same_new (o := .tup [.ty "tuple", .ty "list"]) ht2
      walk_at "go"
      refine g_isiT upd_same cls (ty_tup (tup_same e2 sx)) (kit2 (r1 := true) (r2 := false) (by decide +kernel) (by decide +kernel)) ?_
      walk_at "go"
      refine g_isiB (.ty _) (ty_tup (tup_same e2 sx)) (b := false) (by decide +kernel) ?_
      walk_at "go"
      refine g_isiB (.ty _) (ty_tup (tup_same e2 sy)) (b := false) (by decide +kernel) ?_
      walk_at "go"
      refine g_len (.inr (tup_same e2 sx)) ?_
      walk_at "go"
      refine g_len (.inr (tup_same e2 sy)) ?_
      walk_at "go"
      rw [DpAll.len px, DpAll.len py]
      refine g_iteN (fun hh => absurd rfl hh) (fun _ => ?_)
      walk_at "go"
      refine g_len (.inr (tup_same e2 sy)) ?_
      walk_at "go"
      rw [DpAll.len py]
      refine w_lcRange (by omega) (by omega) (fun D i H' => Same (upd H t1 (.tup [.ty "tuple", .ty "list"])) H' ∧ H' D = some (.lst [])) ?_ ?_ ?_
      · intro D hD
        exact ⟨e2.trans (same_new hD), upd_same⟩
      · rintro D i H' hD hi ⟨sm, eD⟩
        have hi' : i < ds.length := by omega
        have hdi : ds[i]? = some ds[i] := List.getElem?_eq_getElem hi'
        obtain ⟨vx, hvx, dvx⟩ := DpAll.at px hdi
        obtain ⟨vy, hvy, dvy⟩ := DpAll.at py hdi
        walk_at "go"
        refine ⟨rfl, ?_⟩
        walk_at "go"
        refine .inr (.inl ⟨ax, xs, _, vx, rfl, rfl, tup_same sm sx, at_of (j := i) rfl hvx, ?_⟩)
        walk_at "go"
        refine .inr (.inl ⟨ay, ys, _, vy, rfl, rfl, tup_same sm sy, at_of (j := i) rfl hvy, ?_⟩)
        walk_at "go"
        refine ⟨vx, vy, ds[i], rfl, Dp_same sm _ _ dvx, Dp_same sm _ _ dvy, hd _ (List.getElem_mem hi'), fun H3 s3 => ?_⟩
        walk_at "go"
        exact ⟨sm.trans s3, s3 _ _ eD⟩
      · rintro D H' hD ⟨sm, eD⟩
        walk_at "go"
        intro z hz
        walk_at "go"
        refine g_eqLI (ns := []) (ms := []) (SqL.of (same_new hz _ _ eD)) (SqL.of upd_same) ?_
        walk_at "go"
        exact q _ ((s1.trans sm).trans (same_new hz))
/-- at every depth -/
theorem ok_same (T : Txt K mg) {f : Addr} {fd : FuncData} (D : C8.Def K mg "_law_same" s_law_same f fd) (b : Binds K fd ["_law_found", "_law_due"] []) : ∀ n : Nat, C8.Cal P w K mg base n "_law_same" (sp_same K n) []
  | 0 => ⟨f, fd, ["_law_found", "_law_due"], [], ⟨fun _ _ _ _ h => h.elim, fun _ _ _ _ _ _ _ _ _ _ _ _ _ h => h.elim⟩, D.mgf, D.kp, b, .nil⟩
  | n + 1 => same_step T D b (ok_same T D b n)
theorem use_same {n : Nat} {x y : V} {d : PyData} {H : Hp} {Q : VK} {E : XK} (hx : Dp K H x d) (hy : Dp K H y d) (ok : OkD n d) (k : ∀ H', Same H H' → Q (.bl true) H') : sp_same K (n + 1) ([x, y] ++ []) H Q E := ⟨x, y, d, rfl, hx, hy, ok, k⟩
end
end K07
namespace K07
open PySem PySem.Spec PyProof.Rows L2 Wd
/-! ### a plan done: its pats, the delays left, the moment behind it -/
abbrev Res := Option (List Int × List Int × Int)
def seqR (r : Res) (k : List Int → Int → Res) : Res := match r with
  | none => none
  | some (a, ds, t) => match k ds t with
    | none => none
    | some (b, ds', t') => some (a ++ b, ds', t')
def iter (f : List Int → Int → Res) : Nat → List Int → Int → Res
  | 0, ds, t => some ([], ds, t)
  | n + 1, ds, t => seqR (f ds t) (iter f n)
mutual
def rn : Pl → List Int → Int → Res
  | .pat, ds, t => some ([t], ds, t)
  | .work _ _, [], _ => none
  | .work a b, d :: ds, t => if a ≤ d ∧ d ≤ b then some ([], ds, t + d) else none
  | .row ps, ds, t => rns ps ds t
  | .either _, [], _ => none
  | .either ps, d :: ds, t => if 0 ≤ d then rnAt ps d.toNat ds t else none
  | .loop _ _ _, [], _ => none
  | .loop a b p, d :: ds, t => if a ≤ d ∧ d ≤ b then iter (rn p) d.toNat ds t else none
def rns : List Pl → List Int → Int → Res
  | [], ds, t => some ([], ds, t)
  | p :: ps, ds, t => seqR (rn p ds t) (rns ps)
def rnAt : List Pl → Nat → List Int → Int → Res
  | [], _, _, _ => none
  | p :: _, 0, ds, t => rn p ds t
  | _ :: ps, n + 1, ds, t => rnAt ps n ds t
end
theorem seqR_some {a ds : List Int} {t : Int} {k : List Int → Int → Res} {b ds' : List Int} {t' : Int} (h : k ds t = some (b, ds', t')) : seqR (some (a, ds, t)) k = some (a ++ b, ds', t') := by
  unfold seqR; simp only [h]
theorem seqR_inv {r : Res} {k : List Int → Int → Res} {x ds' : List Int} {t' : Int} (h : seqR r k = some (x, ds', t')) : ∃ a ds t b, r = some (a, ds, t) ∧ k ds t = some (b, ds', t') ∧ x = a ++ b := by
  unfold seqR at h
  match r, h with
  | some (a, ds, t), h =>
    simp only at h
    cases e : k ds t with
    | none => rw [e] at h; cases h
    | some z =>
      obtain ⟨b, d2, t2⟩ := z
      rw [e] at h
      cases h
      exact ⟨a, ds, t, b, rfl, e, rfl⟩
theorem iter_rep (p : Pl) : ∀ (n : Nat) (ds : List Int) (t : Int), iter (rn p) n ds t = rns (List.replicate n p) ds t
  | 0, ds, t => by simp only [iter, List.replicate_zero, rns]
  | n + 1, ds, t => by
    have e : iter (rn p) n = rns (List.replicate n p) := funext fun a => funext fun b => iter_rep p n a b
    simp only [iter, List.replicate_succ, rns, e]
theorem rnAt_at : ∀ {ps : List Pl} {n : Nat} {p : Pl}, ps[n]? = some p → ∀ ds t, rnAt ps n ds t = rn p ds t
  | _ :: _, 0, _, e, ds, t => by cases e; simp only [rnAt]
  | _ :: ps, n + 1, _, e, ds, t => by simp only [rnAt]; exact rnAt_at (ps := ps) e ds t
theorem rnAt_some : ∀ {ps : List Pl} {n : Nat} {ds : List Int} {t : Int} {r : List Int × List Int × Int}, rnAt ps n ds t = some r → ∃ p, ps[n]? = some p ∧ rn p ds t = some r
  | [], _, _, _, _, h => by simp only [rnAt] at h; cases h
  | p :: _, 0, ds, t, r, h => by simp only [rnAt] at h; exact ⟨p, rfl, h⟩
  | _ :: ps, n + 1, ds, t, r, h => by simp only [rnAt] at h; exact rnAt_some (ps := ps) h
/-- delays that are used up -/
def Val (f : List Int → Int → Res) (ds : List Int) : Prop := ∀ rest t, ∃ np t', f (ds ++ rest) t = some (np, rest, t')
theorem val_nil : Val (rns []) [] := fun rest t => ⟨[], t, by simp only [List.nil_append, rns]⟩
theorem val_snoc : ∀ {ps : List Pl} {ds : List Int} {p : Pl} {d : List Int}, Val (rns ps) ds → Val (rn p) d → Val (rns (ps ++ [p])) (ds ++ d)
  | [], ds, p, d, h, hp => fun rest t => by
    obtain ⟨np, t1, e⟩ := h (d ++ rest) t
    simp only [rns] at e
    obtain ⟨rfl, e2, rfl⟩ : np = [] ∧ ds ++ (d ++ rest) = d ++ rest ∧ t = t1 := by
      have := Option.some.inj e
      simp only [Prod.mk.injEq] at this
      exact ⟨this.1.symm, this.2.1, this.2.2⟩
    obtain ⟨np2, t2, e3⟩ := hp rest t
    refine ⟨np2 ++ [], t2, ?_⟩
    rw [List.append_assoc, e2]
    simp only [List.nil_append, rns]
    rw [e3]
    exact seqR_some (by simp only [rns])
  | q :: ps, ds, p, d, h, hp => fun rest t => by
    obtain ⟨np, t1, e⟩ := h (d ++ rest) t
    simp only [rns] at e
    obtain ⟨a, ds1, s1, b, e1, e2, e3⟩ := seqR_inv e
    -- the rest of the parts, from what the first leaves
    obtain ⟨np2, t2, e4⟩ := hp rest t1
    have app : ∀ (ps : List Pl) (x : List Int) (s : Int) (b y : List Int) (s' : Int), rns ps x s = some (b, y, s') → ∀ (c z : List Int) (s'' : Int), rn p y s' = some (c, z, s'') → rns (ps ++ [p]) x s = some (b ++ c, z, s'') := by
      intro ps
      induction ps with
      | nil =>
        intro x s b y s' h1 c z s'' h2
        simp only [rns] at h1
        cases h1
        simp only [List.nil_append, rns, h2]
        have := seqR_some (a := c) (k := rns []) (ds := z) (t := s'') (b := []) (ds' := z) (t' := s'') (by simp only [rns])
        rw [List.append_nil] at this
        exact this
      | cons r ps ih =>
        intro x s b y s' h1 c z s'' h2
        simp only [rns] at h1
        obtain ⟨a1, x1, u1, b1, g1, g2, rfl⟩ := seqR_inv h1
        simp only [List.cons_append, rns, g1]
        rw [List.append_assoc]
        exact seqR_some (ih x1 u1 b1 y s' g2 c z s'' h2)
    refine ⟨a ++ (b ++ np2), t2, ?_⟩
    rw [List.append_assoc]
    simp only [List.cons_append, rns, e1]
    exact seqR_some (app ps ds1 s1 b (d ++ rest) t1 e2 np2 rest t2 e4)
mutual
/-- how many delays at the most -/
def mx : Pl → Nat
  | .pat => 0
  | .work _ _ => 1
  | .row ps => mxs ps
  | .either ps => 1 + mxs ps
  | .loop _ _ p => 1 + 9 * mx p
def mxs : List Pl → Nat
  | [] => 0
  | p :: ps => mx p + mxs ps
end
theorem ten_pos (l : Nat) : 1 ≤ 10 ^ l := Nat.pow_pos (by decide)
mutual
theorem mx_le : ∀ (p : Pl) (d l : Nat), okP d l p → mx p ≤ Wd.cnt p * 10 ^ l
  | .pat, d, l, h => Nat.zero_le _
  | .work _ _, d, l, h => by simp only [mx, Wd.cnt, Nat.one_mul]; exact ten_pos l
  | .row ps, 0, l, h => by unfold okP at h; exact h.elim
  | .row ps, d + 1, l, h => by
    unfold okP at h
    have := mxs_le ps d l h.2.2
    simp only [mx, Wd.cnt, Nat.add_mul]
    omega
  | .either ps, 0, l, h => by unfold okP at h; exact h.elim
  | .either ps, d + 1, l, h => by
    unfold okP at h
    have := mxs_le ps d l h.2.2
    have h1 : 1 ≤ 10 ^ l := ten_pos l
    simp only [mx, Wd.cnt, Nat.add_mul]
    omega
  | .loop a b p, 0, l, h => by unfold okP at h; exact h.elim
  | .loop a b p, d + 1, 0, h => by unfold okP at h; exact h.elim
  | .loop a b p, d + 1, l + 1, h => by
    unfold okP at h
    have := mx_le p d l h.2.2.2
    have h1 : 1 ≤ 10 ^ l := ten_pos l
    simp only [mx, Wd.cnt, Nat.add_mul, Nat.pow_succ]
    have e : Wd.cnt p * (10 ^ l * 10) = 10 * (Wd.cnt p * 10 ^ l) := by rw [← Nat.mul_assoc, Nat.mul_comm]
    omega
theorem mxs_le : ∀ (ps : List Pl) (d l : Nat), okPs d l ps → mxs ps ≤ Wd.cnts ps * 10 ^ l
  | [], d, l, h => Nat.zero_le _
  | p :: ps, d, l, h => by
    unfold okPs at h
    have h1 := mx_le p d l h.1
    have h2 := mxs_le ps d l h.2
    simp only [mxs, Wd.cnts, Nat.add_mul]
    omega
end
theorem mxs_take {ps : List Pl} {i : Nat} {p : Pl} (h : ps[i]? = some p) : mxs (ps.take i) + mx p ≤ mxs ps ∧ mxs (ps.take (i + 1)) = mxs (ps.take i) + mx p := by
  induction ps generalizing i with
  | nil => cases h
  | cons q ps ih =>
    match i, h with
    | 0, h => cases h; simp only [List.take_zero, List.take_succ_cons, mxs]; omega
    | i + 1, h =>
      have := ih (i := i) h
      simp only [List.take_succ_cons, mxs]
      omega
theorem mx_at {ps : List Pl} {i : Nat} {p : Pl} (h : ps[i]? = some p) : mx p ≤ mxs ps := by have := (mxs_take h).1; omega
end K07
namespace K07
open PySem PySem.Spec PyProof.Rows L2 Wd
/-- .. and what the program's own text names -/
structure TxtP (K : PySem.W.Frag) (mg : Str → Option Value) : Prop extends Txt K mg where
  k_LONGEST_WORK : ∃ t, mg "LONGEST_WORK" = some (.int 1000 t)
  k_MOST_TIMES : ∃ t, mg "MOST_TIMES" = some (.int 9 t)
  k_LONGEST_ROW : ∃ t, mg "LONGEST_ROW" = some (.int 20 t)
  k_MOST_PLANS : ∃ t, mg "MOST_PLANS" = some (.int 30 t)
  k_MOST_DEEP : ∃ t, mg "MOST_DEEP" = some (.int 6 t)
  k_MOST_LOOPS : ∃ t, mg "MOST_LOOPS" = some (.int 2 t)
section
variable {P : Program} {w : World} {K : PySem.W.Frag} {mg : Str → Option Value} {base : Heap}
theorem g_truT {H : Hp} {p : Addr} {xs : List V} {QB : Bool → Hp → Prop} (h : SqT K H p xs) (q : QB (!xs.isEmpty) H) : ∃ k, TruV K (.ref p) H k ∧ QB k H := ⟨_, .inr (.inl ⟨xs, h, rfl⟩), q⟩
theorem g_truL {H : Hp} {p : Addr} {xs : List V} {QB : Bool → Hp → Prop} (h : SqL K H p xs) (q : QB (!xs.isEmpty) H) : ∃ k, TruV K (.ref p) H k ∧ QB k H := ⟨_, .inl ⟨xs, h, rfl⟩, q⟩
abbrev s_is_number : Stmt := top 12
theorem sc_is_number : FnScope ["value"] ["value"] (C8.fnScope s_is_number) := C8.fnScope_by (by decide +kernel)
def sp_is_number : Sp := fun vs H Q _ => ∃ i : Int, vs = [.int i] ∧ Q (.bl true) H
theorem ok_is_number (T : TxtP K mg) {f : Addr} {fd : FuncData} (D : C8.Def K mg "is_number" s_is_number f fd) (b : Binds K fd ["value"] []) : C8.Cal P w K mg base 1 "is_number" sp_is_number [] := by
  refine C8.cal0 D b .nil sc_is_number (fun vs H Q E h => ?_) fun cdv A outer s H vs Q E hr h => ?_
  · obtain ⟨i, rfl, _⟩ := h; rfl
  · obtain ⟨i, rfl, q⟩ := h
    have nd := sc_is_number.nd
    refine ⟨_, (pss_one (ps_ret (pe_and (pe_callB (r := rIsi K) call_isi (by rfl) T.n_isinstance (by decide +kernel) (pa_cons (pv 0) (pa_cons (pe_bltn (v := .ty "int") (by rfl) T.n_int (by decide +kernel) rfl) pa_nil))) (pe_one (pe_not (pe_callB (r := rIsi K) call_isi (by rfl) T.n_isinstance (by decide +kernel) (pa_cons (pv 0) (pa_cons (pe_bltn (v := .ty "bool") (by rfl) T.n_bool (by decide +kernel) rfl) pa_nil)))))))), ?_⟩
    walk_at "go"
    refine g_isi (.ty "int") (.base (.int i)) (kit_ty (r := true) (by decide +kernel)) ?_
    walk_at "go"
    refine g_isi (.ty "bool") (.base (.int i)) (kit_ty (r := false) (by decide +kernel)) ?_
    walk_at "go"
    exact q

abbrev s_is_range : Stmt := top 13
theorem sc_is_range : FnScope ["least", "most", "limit"] ["least", "most", "limit"] (C8.fnScope s_is_range) := C8.fnScope_by (by decide +kernel)
def sp_is_range : Sp := fun vs H Q _ => ∃ i j k : Int, vs = [.int i, .int j, .int k] ∧ (0 ≤ i ∧ i ≤ j ∧ j ≤ k) ∧ Q (.bl true) H
theorem ok_is_range (T : TxtP K mg) {f : Addr} {fd : FuncData} (D : C8.Def K mg "is_range" s_is_range f fd) (b : Binds K fd ["least", "most", "limit"] []) (g_is_number : C8.Cal P w K mg base 1 "is_number" sp_is_number []) : C8.Cal P w K mg base 2 "is_range" sp_is_range [] := by
  refine C8.cal0 D b .nil sc_is_range (fun vs H Q E h => ?_) fun cdv A outer s H vs Q E hr h => ?_
  · obtain ⟨i, j, k, rfl, _⟩ := h; rfl
  · obtain ⟨i, j, k, rfl, ⟨h1, h2, h3⟩, q⟩ := h
    have nd := sc_is_range.nd
    refine ⟨_, (pss_one (ps_ret (pe_and (C8.pe_c g_is_number hr (by first | decide | exact Nat.le_refl _ | omega) (by rfl) (pa_cons (pv 0) pa_nil)) (pe_and (C8.pe_c g_is_number hr (by first | decide | exact Nat.le_refl _ | omega) (by rfl) (pa_cons (pv 1) pa_nil)) (pe_one (pe_chain3 op_le op_le op_le pe_int (pv 0) (pv 1) (pv 2))))))), ?_⟩
    walk_at "go"
    refine ⟨i, rfl, ?_⟩
    walk_at "go"
    refine ⟨j, rfl, ?_⟩
    walk_at "go"
    refine g_ite (fun _ => ?_) (fun h => absurd h1 h)
    walk_at "go"
    refine g_ite (fun _ => ?_) (fun h => absurd h2 h)
    walk_at "go"
    rw [decide_eq_true h3]
    exact q

abbrev s_has_form : Stmt := top 21
theorem sc_has_form : FnScope ["plan", "word"] ["plan"] (C8.fnScope s_has_form) := C8.fnScope_by (by decide +kernel)
def sp_has_form (K : PySem.W.Frag) : Sp := fun vs H Q _ => ∃ (v : V) (p : Pl) (d l : Nat), vs = [v] ∧ PlA H v p ∧ okP d l p ∧ Q (.bl true) H
theorem ok_has_form (T : TxtP K mg) {f : Addr} {fd : FuncData} (D : C8.Def K mg "has_form" s_has_form f fd) (b : Binds K fd ["plan"] []) (g_is_range : C8.Cal P w K mg base 2 "is_range" sp_is_range []) : C8.Cal P w K mg base 3 "has_form" (sp_has_form K) [] := by
  refine C8.cal0 D b .nil sc_has_form (fun vs H Q E h => ?_) fun cdv A outer s H vs Q E hr h => ?_
  · obtain ⟨v, p, d, l, rfl, _⟩ := h; rfl
  · obtain ⟨v, p, d, l, rfl, hp, ok, q⟩ := h
    have nd := sc_has_form.nd
    obtain ⟨_, c_LONGEST_WORK⟩ := T.k_LONGEST_WORK
    obtain ⟨_, c_MOST_TIMES⟩ := T.k_MOST_TIMES
    obtain ⟨_, c_LONGEST_ROW⟩ := T.k_LONGEST_ROW
    refine ⟨_, (pss_cons (ps_if (PW.pt (pw_or (pt_not (pt_val (pe_callB (r := rIsi K) call_isi (by rfl) T.n_isinstance (by decide +kernel) (pa_cons (pv 0) (pa_cons (pe_bltn (v := .ty "tuple") (by rfl) T.n_tuple (by decide +kernel) rfl) pa_nil))))) (pw_or1 (pt_not (pt_truth (pv 0) (by intro _; rfl)))))) (pss_one (ps_ret pe_bl)) pss_nil)
      (pss_cons (ps_set (i := 1) nd rfl (Or.inl rfl) (pe_ix (r := rIxT K) ix_tup (pv 0) pe_int (fun _ _ => rfl)))
      (pss_cons (ps_if (pt_cmpR op_eq (pv 1) pe_str (nomark _)) (pss_one (ps_ret (pe_cmpR op_eq (pe_callB (r := Wd.rLen K) call_len1 (by rfl) T.n_len PySem.boot_len (pa_cons (pv 0) pa_nil)) pe_int (nomark _)))) pss_nil)
      (pss_cons (ps_if (pt_cmpR op_eq (pv 1) pe_str (nomark _)) (pss_one (ps_ret (pe_and (pe_cmpR op_eq (pe_callB (r := Wd.rLen K) call_len1 (by rfl) T.n_len PySem.boot_len (pa_cons (pv 0) pa_nil)) pe_int (nomark _)) (pe_one (C8.pe_c g_is_range hr (by first | decide | exact Nat.le_refl _ | omega) (by rfl) (pa_cons (pe_ix (r := rIxT K) ix_tup (pv 0) pe_int (fun _ _ => rfl)) (pa_cons (pe_ix (r := rIxT K) ix_tup (pv 0) pe_int (fun _ _ => rfl)) (pa_cons (pe_glob (v := .int 1000) rfl c_LONGEST_WORK ⟨_, rfl⟩) pa_nil)))))))) pss_nil)
      (pss_cons (ps_if (PW.pt (pw_or (pt_cmpR op_eq (pv 1) pe_str (nomark _)) (pw_or1 (pt_cmpR op_eq (pv 1) pe_str (nomark _))))) (pss_one (ps_ret (pe_and (pe_cmpR op_eq (pe_callB (r := Wd.rLen K) call_len1 (by rfl) T.n_len PySem.boot_len (pa_cons (pv 0) pa_nil)) pe_int (nomark _)) (pe_and (pe_callB (r := rIsi K) call_isi (by rfl) T.n_isinstance (by decide +kernel) (pa_cons (pe_ix (r := rIxT K) ix_tup (pv 0) pe_int (fun _ _ => rfl)) (pa_cons (pe_bltn (v := .ty "tuple") (by rfl) T.n_tuple (by decide +kernel) rfl) pa_nil))) (pe_one (pe_chain op_le op_le pe_int (pe_callB (r := Wd.rLen K) call_len1 (by rfl) T.n_len PySem.boot_len (pa_cons (pe_ix (r := rIxT K) ix_tup (pv 0) pe_int (fun _ _ => rfl)) pa_nil)) (pe_glob (v := .int 20) rfl c_LONGEST_ROW ⟨_, rfl⟩))))))) pss_nil)
      (pss_cons (ps_if (pt_cmpR op_eq (pv 1) pe_str (nomark _)) (pss_one (ps_ret (pe_and (pe_cmpR op_eq (pe_callB (r := Wd.rLen K) call_len1 (by rfl) T.n_len PySem.boot_len (pa_cons (pv 0) pa_nil)) pe_int (nomark _)) (pe_one (C8.pe_c g_is_range hr (by first | decide | exact Nat.le_refl _ | omega) (by rfl) (pa_cons (pe_ix (r := rIxT K) ix_tup (pv 0) pe_int (fun _ _ => rfl)) (pa_cons (pe_ix (r := rIxT K) ix_tup (pv 0) pe_int (fun _ _ => rfl)) (pa_cons (pe_glob (v := .int 9) rfl c_MOST_TIMES ⟨_, rfl⟩) pa_nil)))))))) pss_nil)
      (pss_one (ps_ret pe_bl)))))))), ?_⟩
    cases hp with
    | pat ha =>
      walk_at "go"
      refine g_isiB (.ty _) (ty_tup (SqT.of ha)) (b := true) (by decide +kernel) ?_
      walk_at "go"
      refine ⟨_, .inr (.inl ⟨_, SqT.of ha, rfl⟩), ?_⟩
      walk_at "go"
      refine g_ixT (SqT.of ha) rfl ?_
      walk_at "go"
      refine g_len (.inr (SqT.of ha)) ?_
      walk_at "go"
      exact q
    | @work a x y ha =>
      unfold okP at ok
      walk_at "go"
      refine g_isiB (.ty _) (ty_tup (SqT.of ha)) (b := true) (by decide +kernel) ?_
      walk_at "go"
      refine ⟨_, .inr (.inl ⟨_, SqT.of ha, rfl⟩), ?_⟩
      walk_at "go"
      refine g_ixT (SqT.of ha) rfl ?_
      walk_at "go"
      refine g_len (.inr (SqT.of ha)) ?_
      walk_at "go"
      refine g_ixT (SqT.of ha) rfl ?_
      walk_at "go"
      refine g_ixT (SqT.of ha) rfl ?_
      walk_at "go"
      exact ⟨x, y, 1000, rfl, ok, q⟩
    | @row a c vs ps ha hc hps =>
      match d, ok with
      | 0, ok => unfold okP at ok; exact ok.elim
      | d + 1, ok =>
      unfold okP at ok
      have ln := hps.len
      walk_at "go"
      refine g_isiB (.ty _) (ty_tup (SqT.of ha)) (b := true) (by decide +kernel) ?_
      walk_at "go"
      refine ⟨_, .inr (.inl ⟨_, SqT.of ha, rfl⟩), ?_⟩
      walk_at "go"
      refine g_ixT (SqT.of ha) rfl ?_
      walk_at "go"
      refine g_len (.inr (SqT.of ha)) ?_
      walk_at "go"
      refine g_ixT (SqT.of ha) rfl ?_
      walk_at "go"
      refine g_isiB (.ty _) (ty_tup (SqT.of hc)) (b := true) (by decide +kernel) ?_
      walk_at "go"
      refine g_ixT (SqT.of ha) rfl ?_
      walk_at "go"
      refine g_len (.inr (SqT.of hc)) ?_
      walk_at "go"
      refine g_ite (fun _ => ?_) (fun h => absurd (by omega) h)
      walk_at "go"
      rw [decide_eq_true (by omega)]
      exact q
    | @either a c vs ps ha hc hps =>
      match d, ok with
      | 0, ok => unfold okP at ok; exact ok.elim
      | d + 1, ok =>
      unfold okP at ok
      have ln := hps.len
      walk_at "go"
      refine g_isiB (.ty _) (ty_tup (SqT.of ha)) (b := true) (by decide +kernel) ?_
      walk_at "go"
      refine ⟨_, .inr (.inl ⟨_, SqT.of ha, rfl⟩), ?_⟩
      walk_at "go"
      refine g_ixT (SqT.of ha) rfl ?_
      walk_at "go"
      refine g_len (.inr (SqT.of ha)) ?_
      walk_at "go"
      refine g_ixT (SqT.of ha) rfl ?_
      walk_at "go"
      refine g_isiB (.ty _) (ty_tup (SqT.of hc)) (b := true) (by decide +kernel) ?_
      walk_at "go"
      refine g_ixT (SqT.of ha) rfl ?_
      walk_at "go"
      refine g_len (.inr (SqT.of hc)) ?_
      walk_at "go"
      refine g_ite (fun _ => ?_) (fun h => absurd (by omega) h)
      walk_at "go"
      rw [decide_eq_true (by omega)]
      exact q
    | @loop a x y u p ha hu =>
      match d, ok with
      | 0, ok => unfold okP at ok; exact ok.elim
      | d + 1, ok =>
      match l, ok with
      | 0, ok => unfold okP at ok; exact ok.elim
      | l + 1, ok =>
      unfold okP at ok
      walk_at "go"
      refine g_isiB (.ty _) (ty_tup (SqT.of ha)) (b := true) (by decide +kernel) ?_
      walk_at "go"
      refine ⟨_, .inr (.inl ⟨_, SqT.of ha, rfl⟩), ?_⟩
      walk_at "go"
      refine g_ixT (SqT.of ha) rfl ?_
      walk_at "go"
      refine g_len (.inr (SqT.of ha)) ?_
      walk_at "go"
      refine g_ixT (SqT.of ha) rfl ?_
      walk_at "go"
      refine g_ixT (SqT.of ha) rfl ?_
      walk_at "go"
      exact ⟨x, y, 9, rfl, ⟨ok.1, ok.2.1, ok.2.2.1⟩, q⟩
end
end K07
namespace K07
open PySem PySem.Spec PyProof.Rows L2 Wd
theorem take_snoc {α : Type} {l : List α} {i : Nat} {x : α} (h : l[i]? = some x) : l.take (i + 1) = l.take i ++ [x] := by
  rw [List.take_succ, h]; rfl
theorem cnts_app : ∀ ps qs : List Pl, cnts (ps ++ qs) = cnts ps + cnts qs
  | [], qs => by simp only [List.nil_append, Wd.cnts]; omega
  | p :: ps, qs => by have ih := cnts_app ps qs; simp only [List.cons_append, Wd.cnts, ih]; omega
section
variable {P : Program} {w : World} {K : PySem.W.Frag} {mg : Str → Option Value} {base : Heap}
/-- the plans that a plan is made of -/
def kids : Pl → List Pl
  | .row ps => ps
  | .either ps => ps
  | .loop _ _ p => [p]
  | _ => []
abbrev s_plans_in : Stmt := top 22
theorem sc_plans_in : FnScope ["plan"] ["plan"] (C8.fnScope s_plans_in) := C8.fnScope_by (by decide +kernel)
def sp_plans_in (K : PySem.W.Frag) : Sp := fun vs H Q _ => ∃ (v : V) (p : Pl), vs = [v] ∧ PlA H v p ∧ ∀ H' t us, Same H H' → H' t = some (.tup us) → PlAs H' us (kids p) → Q (.ref t) H'
theorem ok_plans_in (T : TxtP K mg) {f : Addr} {fd : FuncData} (D : C8.Def K mg "plans_in" s_plans_in f fd) (b : Binds K fd ["plan"] []) : C8.Cal P w K mg base 1 "plans_in" (sp_plans_in K) [] := by
  refine C8.cal0 D b .nil sc_plans_in (fun vs H Q E h => ?_) fun cdv A outer s H vs Q E hr h => ?_
  · obtain ⟨v, p, rfl, _⟩ := h; rfl
  · obtain ⟨v, p, rfl, hp, q⟩ := h
    have nd := sc_plans_in.nd
    refine ⟨_, (pss_cons (ps_if (PW.pt (pw_or (pt_cmpR op_eq (pe_ix (r := rIxT K) ix_tup (pv 0) pe_int (fun _ _ => rfl)) pe_str (nomark _)) (pw_or1 (pt_cmpR op_eq (pe_ix (r := rIxT K) ix_tup (pv 0) pe_int (fun _ _ => rfl)) pe_str (nomark _))))) (pss_one (ps_ret (pe_ix (r := rIxT K) ix_tup (pv 0) pe_int (fun _ _ => rfl)))) pss_nil)
      (pss_cons (ps_if (pt_cmpR op_eq (pe_ix (r := rIxT K) ix_tup (pv 0) pe_int (fun _ _ => rfl)) pe_str (nomark _)) (pss_one (ps_ret (pe_tup (pa_cons (pe_ix (r := rIxT K) ix_tup (pv 0) pe_int (fun _ _ => rfl)) pa_nil)))) pss_nil)
      (pss_one (ps_ret (pe_tup pa_nil))))), ?_⟩
    cases hp with
    | pat ha =>
      walk_at "go"
      refine g_ixT (SqT.of ha) rfl ?_
      walk_at "go"
      refine g_ixT (SqT.of ha) rfl ?_
      walk_at "go"
      refine g_ixT (SqT.of ha) rfl ?_
      walk_at "go"
      intro t ht
      exact q _ t [] (same_new ht) upd_same .nil
    | work ha =>
      walk_at "go"
      refine g_ixT (SqT.of ha) rfl ?_
      walk_at "go"
      refine g_ixT (SqT.of ha) rfl ?_
      walk_at "go"
      refine g_ixT (SqT.of ha) rfl ?_
      walk_at "go"
      intro t ht
      exact q _ t [] (same_new ht) upd_same .nil
    | row ha hc hps =>
      walk_at "go"
      refine g_ixT (SqT.of ha) rfl ?_
      walk_at "go"
      refine g_ixT (SqT.of ha) rfl ?_
      walk_at "go"
      exact q _ _ _ (fun _ _ h => h) hc hps
    | either ha hc hps =>
      walk_at "go"
      refine g_ixT (SqT.of ha) rfl ?_
      walk_at "go"
      refine g_ixT (SqT.of ha) rfl ?_
      walk_at "go"
      refine g_ixT (SqT.of ha) rfl ?_
      walk_at "go"
      exact q _ _ _ (fun _ _ h => h) hc hps
    | @loop a x y u p ha hu =>
      walk_at "go"
      refine g_ixT (SqT.of ha) rfl ?_
      walk_at "go"
      refine g_ixT (SqT.of ha) rfl ?_
      walk_at "go"
      refine g_ixT (SqT.of ha) rfl ?_
      walk_at "go"
      refine g_ixT (SqT.of ha) rfl ?_
      walk_at "go"
      intro t ht
      exact q _ t _ (same_new ht) upd_same (.cons (PlA_keep (keepT_same (same_new ht)) _ _ hu) .nil)

/-- what waits to be looked at: of each its depth and its loops; n plans in all -/
inductive Wa (H : Hp) : List V → Nat → Prop
  | nil : Wa H [] 0
  | snoc {vs : List V} {n : Nat} {t : Addr} {v : V} {p : Pl} {deep loops : Int} {d l : Nat} : Wa H vs n → H t = some (.tup [v, .int deep, .int loops]) → PlA H v p → okP d l p → deep + d ≤ 6 → loops + l ≤ 2 → Wa H (vs ++ [.ref t]) (n + Wd.cnt p)
theorem Wa.keep {H H' : Hp} (e : KeepT H H') {vs : List V} {n : Nat} (h : Wa H vs n) : Wa H' vs n := by
  induction h with
  | nil => exact .nil
  | snoc _ h1 h2 h3 h4 h5 ih => exact .snoc ih (e _ _ h1) (PlA_keep e _ _ h2) h3 h4 h5
theorem Wa.len {H : Hp} {vs : List V} {n : Nat} (h : Wa H vs n) : vs.length ≤ n := by
  induction h with
  | nil => exact Nat.le_refl _
  | @snoc vs n t v p deep loops d l _ _ _ _ _ _ ih => rw [List.length_append, List.length_singleton]; have := cnt_pos p; omega
theorem cnt_kids : ∀ p : Pl, Wd.cnt p = 1 + Wd.cnts (kids p)
  | .pat => rfl
  | .work _ _ => rfl
  | .row _ => by simp only [Wd.cnt, kids]
  | .either _ => by simp only [Wd.cnt, kids]
  | .loop _ _ _ => by simp only [Wd.cnt, kids, Wd.cnts, Nat.add_zero]
theorem cnts_take {ps : List Pl} {i : Nat} {p : Pl} (h : ps[i]? = some p) : Wd.cnts (ps.take (i + 1)) = Wd.cnts (ps.take i) + Wd.cnt p := by
  rw [take_snoc h, cnts_app]; simp only [Wd.cnts, Nat.add_zero]
theorem Wa.inv {H : Hp} {xs : List V} {n : Nat} (h : Wa H xs n) : (xs = [] ∧ n = 0) ∨ ∃ (vs : List V) (m : Nat) (t : Addr) (v : V) (p : Pl) (deep loops : Int) (d l : Nat), xs = vs ++ [.ref t] ∧ n = m + Wd.cnt p ∧ Wa H vs m ∧ H t = some (.tup [v, .int deep, .int loops]) ∧ PlA H v p ∧ okP d l p ∧ deep + d ≤ 6 ∧ loops + l ≤ 2 := by
  cases h with
  | nil => exact .inl ⟨rfl, rfl⟩
  | snoc h1 h2 h3 h4 h5 h6 => exact .inr ⟨_, _, _, _, _, _, _, _, _, rfl, rfl, h1, h2, h3, h4, h5, h6⟩
theorem cnts_take_le : ∀ (ps : List Pl) (i : Nat), Wd.cnts (ps.take i) ≤ Wd.cnts ps
  | [], i => by rw [List.take_nil]; exact Nat.le_refl _
  | p :: ps, 0 => Nat.zero_le _
  | p :: ps, i + 1 => by have := cnts_take_le ps i; simp only [List.take_succ_cons, Wd.cnts]; omega
def word : Pl → Str
  | .pat => "pat"
  | .work _ _ => "work"
  | .row _ => "row"
  | .either _ => "either"
  | .loop _ _ _ => "loop"
def lp : Pl → Nat
  | .loop _ _ _ => 1
  | _ => 0
theorem word_at {H : Hp} {v : V} {p : Pl} (h : PlA H v p) : ∃ a xs, v = .ref a ∧ H a = some (.tup (.str (word p) :: xs)) := by
  cases h with
  | pat h => exact ⟨_, _, rfl, h⟩
  | work h => exact ⟨_, _, rfl, h⟩
  | row h _ _ => exact ⟨_, _, rfl, h⟩
  | either h _ _ => exact ⟨_, _, rfl, h⟩
  | loop h _ => exact ⟨_, _, rfl, h⟩
theorem lp_yes {p : Pl} (h : word p = "loop") : lp p = 1 := by
  cases p with
  | loop _ _ _ => rfl
  | pat => exact absurd h (by decide)
  | work _ _ => exact absurd h (by decide : ¬ (Str.ofString "work" = Str.ofString "loop"))
  | row _ => exact absurd h (by decide : ¬ (Str.ofString "row" = Str.ofString "loop"))
  | either _ => exact absurd h (by decide : ¬ (Str.ofString "either" = Str.ofString "loop"))
theorem lp_no {p : Pl} (h : ¬ word p = "loop") : lp p = 0 := by
  cases p with
  | loop _ _ _ => exact absurd rfl h
  | pat => rfl
  | work _ _ => rfl
  | row _ => rfl
  | either _ => rfl
theorem kids_ok : ∀ {p : Pl} {d l : Nat}, okP d l p → lp p ≤ l ∧ (kids p = [] ∨ ∃ d', d = d' + 1 ∧ okPs d' (l - lp p) (kids p))
  | .pat, _, _, _ => ⟨Nat.zero_le _, .inl rfl⟩
  | .work _ _, _, _, _ => ⟨Nat.zero_le _, .inl rfl⟩
  | .row _, 0, _, h => by unfold okP at h; exact h.elim
  | .row ps, d + 1, l, h => by unfold okP at h; exact ⟨Nat.zero_le _, .inr ⟨d, rfl, h.2.2⟩⟩
  | .either _, 0, _, h => by unfold okP at h; exact h.elim
  | .either ps, d + 1, l, h => by unfold okP at h; exact ⟨Nat.zero_le _, .inr ⟨d, rfl, h.2.2⟩⟩
  | .loop _ _ _, 0, _, h => by unfold okP at h; exact h.elim
  | .loop _ _ _, d + 1, 0, h => by unfold okP at h; exact h.elim
  | .loop _ _ p, d + 1, l + 1, h => by unfold okP at h; exact ⟨Nat.le_add_left _ _, .inr ⟨d, rfl, by show okPs d l [p]; unfold okPs; exact ⟨h.2.2.2, by unfold okPs; trivial⟩⟩⟩
abbrev s_check_plan : Stmt := top 23
theorem sc_check_plan : FnScope ["plan", "waiting", "many", "part", "deep", "loops", "inner"] ["plan"] (C8.fnScope s_check_plan) := C8.fnScope_by (by decide +kernel)
def sp_check_plan (K : PySem.W.Frag) : Sp := fun vs H Q _ => ∃ (v : V) (p : Pl) (d l : Nat), vs = [v] ∧ PlA H v p ∧ okP d l p ∧ d ≤ 5 ∧ l ≤ 2 ∧ cnt p ≤ 30 ∧ ∀ H', Same H H' → Q .non H'
theorem ok_check_plan (T : TxtP K mg) {f : Addr} {fd : FuncData} (D : C8.Def K mg "check_plan" s_check_plan f fd) (b : Binds K fd ["plan"] []) (g_has_form : C8.Cal P w K mg base 3 "has_form" (sp_has_form K) []) (g_plans_in : C8.Cal P w K mg base 1 "plans_in" (sp_plans_in K) []) :
    C8.Cal P w K mg base 4 "check_plan" (sp_check_plan K) [] := by
  refine C8.cal0 D b .nil sc_check_plan (fun vs H Q E h => ?_) fun cdv A outer s H vs Q E hr h => ?_
  · obtain ⟨v, p, d, l, rfl, _⟩ := h; rfl
  · obtain ⟨v, p0, d, l, rfl, hp, ok, hd, hl, hc, q⟩ := h
    have nd := sc_check_plan.nd
    obtain ⟨_, c_MOST_PLANS⟩ := T.k_MOST_PLANS
    obtain ⟨_, c_MOST_DEEP⟩ := T.k_MOST_DEEP
    obtain ⟨_, c_MOST_LOOPS⟩ := T.k_MOST_LOOPS
    refine ⟨_, (pss_cons (ps_set (i := 1) nd rfl (Or.inl rfl) (pe_lst (pa_cons (pe_tup (pa_cons (pv 0) (pa_cons pe_int (pa_cons pe_int pa_nil)))) pa_nil)))
      (pss_cons (ps_set (i := 2) nd rfl (Or.inl rfl) pe_int)
      (pss_one (ps_while PassesOwn.never (pt_truth (pv 1) (by intro _; rfl)) (pss_cons (ps_asg (pe_bm0K (K := K) rfl PySem.F.plainAttrs_list PySem.F.slot_list_pop PySem.F.type_list_pop mt_pop (pv 1)) (pg_tup rfl (pgs_cons (pg_name (i := 3) nd rfl (Or.inl rfl)) (pgs_cons (pg_name (i := 4) nd rfl (Or.inl rfl)) (pgs_cons (pg_name (i := 5) nd rfl (Or.inl rfl)) pgs_nil)))))
      (pss_cons (ps_aug (i := 2) nd rfl (Or.inl rfl) pe_int ip_add)
      (pss_cons (ps_if (PW.pt (pw_or (pt_cmpR op_gt (pv 2) (pe_glob (v := .int 30) rfl c_MOST_PLANS ⟨_, rfl⟩) (nomark _)) (pw_or (pt_cmpR op_gt (pv 4) (pe_glob (v := .int 6) rfl c_MOST_DEEP ⟨_, rfl⟩) (nomark _)) (pw_or1 (pt_not (pt_val (C8.pe_c g_has_form hr (by first | decide | exact Nat.le_refl _ | omega) (by rfl) (pa_cons (pv 3) pa_nil)))))))) (pss_one ps_never) pss_nil)
      (pss_cons (ps_if (pt_cmpR op_eq (pe_ix (r := rIxT K) ix_tup (pv 3) pe_int (fun _ _ => rfl)) pe_str (nomark _)) (pss_one (ps_aug (i := 5) nd rfl (Or.inl rfl) pe_int ip_add)) pss_nil)
      (pss_cons (ps_if (pt_cmpR op_gt (pv 5) (pe_glob (v := .int 2) rfl c_MOST_LOOPS ⟨_, rfl⟩) (nomark _)) (pss_one ps_never) pss_nil)
      (pss_one (ps_for PassesOwn.never rfl (pi_tup (C8.pe_c g_plans_in hr (by first | decide | exact Nat.le_refl _ | omega) (by rfl) (pa_cons (pv 3) pa_nil))) (pg_name (i := 6) nd rfl (Or.inl rfl)) (pss_one (ps_expr (pe_bmK (K := K) rfl PySem.F.plainAttrs_list PySem.F.slot_list_append PySem.F.type_list_append mt_append (pv 1) (pa_cons (pe_tup (pa_cons (pv 6) (pa_cons (pe_op op_add (pv 4) pe_int) (pa_cons (pv 5) pa_nil)))) pa_nil))))))))))))))), ?_⟩
    walk_at "go"
    intro t ht
    walk_at "go"
    intro W hW
    walk_at "go"
    have hW0 : H W = none := by
      by_cases e : W = t
      · rw [e]; exact ht
      · rwa [upd_ne e] at hW
    obtain ⟨a0, xs0, rfl, _⟩ := word_at hp
    have sm0 : Same H (upd (upd H t (.tup [.ref a0, .int 1, .int 0])) W (.lst [.ref t])) := (same_new ht).trans (same_new hW)
    have hp0 : ∀ H', Same H H' → PlA H' (.ref a0) p0 := fun H' s => PlA_keep (keepT_same s) _ _ hp
    refine w_loop (fun m σ H' => ∃ (xs : List V) (many : Int) (v3 v4 v5 v6 : Option V), σ = [some (.ref a0), some (.ref W), some (.int many), v3, v4, v5, v6] ∧ Same H H' ∧ PlA H' (.ref a0) p0 ∧ H' W = some (.lst xs) ∧ Wa H' xs m ∧ 0 ≤ many ∧ many + m ≤ 30) (0 + Wd.cnt p0) ?_ ?_
    · exact ⟨_, 0, _, _, _, _, rfl, sm0, hp0 _ sm0, upd_same, .snoc (vs := []) .nil (same_new hW _ _ upd_same) (hp0 _ sm0) ok (by omega) (by omega), by decide, by omega⟩
    · rintro m σ H' ⟨xs, many, v3, v4, v5, v6, rfl, sm, hp', hWx, wa, le0, le⟩
      walk_at "go"
      rcases wa.inv with ⟨rfl, rfl⟩ | ⟨vs, n, tt0, v, p, deep, loops, d, l, rfl, rfl, wa, hE, pv, okk0, h6, h7⟩
      · refine ⟨false, .inl ⟨[], SqL.of hWx, rfl⟩, ?_⟩
        walk_at "go"
        exact q _ sm
      refine ⟨true, .inl ⟨_, SqL.of hWx, by cases vs <;> rfl⟩, ?_⟩
      refine L2.iteT ?_
      refine ⟨fun σ' H'' => ∃ m', m' < n + Wd.cnt p ∧ ∃ (xs : List V) (many : Int) (v3 v4 v5 v6 : Option V), σ' = [some (.ref a0), some (.ref W), some (.int many), v3, v4, v5, v6] ∧ Same H H'' ∧ PlA H'' (.ref a0) p0 ∧ H'' W = some (.lst xs) ∧ Wa H'' xs m' ∧ 0 ≤ many ∧ many + m' ≤ 30, fun _ _ h => h, ?_⟩
      obtain ⟨lpl, kok⟩ := kids_ok okk0
      have ck := cnt_kids p
      have len1 := wa.len
      walk_at "go"
      refine g_tyL hWx ?_
      refine g_pop hWx (y := .ref tt0) (by rw [List.length_append, List.length_singleton, Nat.add_sub_cancel, List.getElem?_append_right (Nat.le_refl _), Nat.sub_self]; rfl) ?_
      rw [List.dropLast_concat]
      have k1 : KeepT H' (upd H' W (.lst vs)) := keepT_lst hWx
      have sm1 : Same H (upd H' W (.lst vs)) := Wd.Same.mut sm hW0
      have hW1 : upd H' W (.lst vs) W = some (.lst vs) := upd_same
      have wa1 := wa.keep k1
      have pv := PlA_keep k1 _ _ pv
      refine g_gtup (SqT.of (k1 _ _ hE)) rfl ?_
      walk_at "go"
      refine ⟨_, rfl, ?_⟩
      walk_at "go"
      refine ⟨_, _, rfl, rfl, ?_⟩
      walk_at "go"
      refine g_ite (fun hx => absurd (show 30 < many + 1 from hx) (by omega)) (fun _ => ?_)
      walk_at "go"
      refine g_ite (fun hx => absurd hx (by omega)) (fun _ => ?_)
      walk_at "go"
      refine ⟨v, p, d, l, rfl, pv, okk0, ?_⟩
      walk_at "go"
      obtain ⟨av, xv, rfl, hav⟩ := word_at pv
      refine g_ixT (v := .str (word p)) (SqT.of hav) (at_of (j := 0) rfl rfl) ?_
      walk_at "go"
      generalize hv : V.ref av = v at pv ⊢
      refine g_ite (fun hw => ?_) (fun hw => ?_)
      · have lp1 := lp_yes hw
        walk_at "go"
        refine ⟨_, rfl, ?_⟩
        walk_at "go"
        refine ⟨_, _, rfl, rfl, ?_⟩
        walk_at "go"
        refine g_ite (fun hx => absurd (show 2 < loops + 1 from hx) (by omega)) (fun _ => ?_)
        walk_at "go"
        refine ⟨v, p, rfl, pv, fun H4 tt us s4 hT pk => ?_⟩
        have hW4 := s4 _ _ hW1
        have sm4 : Same H H4 := sm1.trans s4
        refine w_tup (xs := us) (fun i σ H' => ∃ (v6 : Option V) (xs : List V), σ = [some (.ref a0), some (.ref W), some (.int (many + 1)), some v, some (.int deep), some (.int (loops + 1)), v6] ∧ Same H H' ∧ H' tt = some (.tup us) ∧ PlAs H' us (kids p) ∧ H' W = some (.lst xs) ∧ Wa H' xs (n + Wd.cnts ((kids p).take i))) ?_ ?_ ?_ ?_
        · exact ⟨_, vs, rfl, sm4, hT, pk, hW4, by simpa only [List.take_zero, Wd.cnts, Nat.add_zero] using wa1.keep (keepT_same s4)⟩
        · rintro i σ H' _ ⟨v6, xs, _, _, hT', _⟩
          exact SqT.of hT'
        · rintro i u σ H' hu ⟨v6, xs, rfl, sm5, hT5, pk5, hW5, wa5⟩
          obtain ⟨q1, hq, pu⟩ := pk5.at hu
          obtain ⟨d', rfl, okk⟩ := kok.resolve_left (fun e => by rw [e] at hq; cases hq)
          have l5 := wa5.len
          have c5 := cnts_take hq
          have c6 : Wd.cnts ((kids p).take (i + 1)) ≤ Wd.cnts (kids p) := cnts_take_le _ _
          walk_at "go"
          refine g_tyL hW5 ?_
          walk_at "go"
          intro e he
          have s6 := same_new (o := .tup [u, .int (deep + 1), .int (loops + 1)]) he
          walk_at "go"
          refine g_append (s6 _ _ hW5) (by omega) ?_
          have k6 : KeepT H' (upd (upd H' e (.tup [u, .int (deep + 1), .int (loops + 1)])) W (.lst (xs ++ [.ref e]))) := (keepT_same s6).trans (keepT_lst (s6 _ _ hW5))
          walk_at "go"
          refine ⟨_, xs ++ [.ref e], rfl, Wd.Same.mut (sm5.trans s6) hW0, ?_, PlAs_keep k6 _ _ pk5, upd_same, ?_⟩
          · exact k6 _ _ hT5
          · rw [c5, ← Nat.add_assoc]
            exact .snoc (wa5.keep k6) (keepT_lst (s6 _ _ hW5) _ _ upd_same) (PlA_keep k6 _ _ pu) (okPs_at okk hq) (by omega) (by omega)
        · rintro σ H' ⟨v6, xs, rfl, sm5, hT5, pk5, hW5, wa5⟩
          rw [pk5.len, List.take_length] at wa5
          walk_at "go"
          exact ⟨_, by omega, xs, _, _, _, _, _, rfl, sm5, hp0 _ sm5, hW5, wa5, (show 0 ≤ many + 1 by omega), (show many + 1 + ((n + Wd.cnts (kids p) : Nat) : Int) ≤ 30 by omega)⟩
      · have lp0 := lp_no hw
        walk_at "go"
        refine g_ite (fun hx => absurd (show 2 < loops from hx) (by omega)) (fun _ => ?_)
        walk_at "go"
        refine ⟨v, p, rfl, pv, fun H4 tt us s4 hT pk => ?_⟩
        have hW4 := s4 _ _ hW1
        have sm4 : Same H H4 := sm1.trans s4
        refine w_tup (xs := us) (fun i σ H' => ∃ (v6 : Option V) (xs : List V), σ = [some (.ref a0), some (.ref W), some (.int (many + 1)), some v, some (.int deep), some (.int loops), v6] ∧ Same H H' ∧ H' tt = some (.tup us) ∧ PlAs H' us (kids p) ∧ H' W = some (.lst xs) ∧ Wa H' xs (n + Wd.cnts ((kids p).take i))) ?_ ?_ ?_ ?_
        · exact ⟨_, vs, rfl, sm4, hT, pk, hW4, by simpa only [List.take_zero, Wd.cnts, Nat.add_zero] using wa1.keep (keepT_same s4)⟩
        · rintro i σ H' _ ⟨v6, xs, _, _, hT', _⟩
          exact SqT.of hT'
        · rintro i u σ H' hu ⟨v6, xs, rfl, sm5, hT5, pk5, hW5, wa5⟩
          obtain ⟨q1, hq, pu⟩ := pk5.at hu
          obtain ⟨d', rfl, okk⟩ := kok.resolve_left (fun e => by rw [e] at hq; cases hq)
          have l5 := wa5.len
          have c5 := cnts_take hq
          have c6 : Wd.cnts ((kids p).take (i + 1)) ≤ Wd.cnts (kids p) := cnts_take_le _ _
          walk_at "go"
          refine g_tyL hW5 ?_
          walk_at "go"
          intro e he
          have s6 := same_new (o := .tup [u, .int (deep + 1), .int loops]) he
          walk_at "go"
          refine g_append (s6 _ _ hW5) (by omega) ?_
          have k6 : KeepT H' (upd (upd H' e (.tup [u, .int (deep + 1), .int loops])) W (.lst (xs ++ [.ref e]))) := (keepT_same s6).trans (keepT_lst (s6 _ _ hW5))
          walk_at "go"
          refine ⟨_, xs ++ [.ref e], rfl, Wd.Same.mut (sm5.trans s6) hW0, ?_, PlAs_keep k6 _ _ pk5, upd_same, ?_⟩
          · exact k6 _ _ hT5
          · rw [c5, ← Nat.add_assoc]
            exact .snoc (wa5.keep k6) (keepT_lst (s6 _ _ hW5) _ _ upd_same) (PlA_keep k6 _ _ pu) (okPs_at okk hq) (by omega) (by omega)
        · rintro σ H' ⟨v6, xs, rfl, sm5, hT5, pk5, hW5, wa5⟩
          rw [pk5.len, List.take_length] at wa5
          walk_at "go"
          exact ⟨_, by omega, xs, _, _, _, _, _, rfl, sm5, hp0 _ sm5, hW5, wa5, (show 0 ≤ many + 1 by omega), (show many + 1 + ((n + Wd.cnts (kids p) : Nat) : Int) ≤ 30 by omega)⟩
end
end K07
namespace K07
open PySem PySem.Spec PyProof.Rows L2 Wd
/-! ### a run -/
structure TxtR (K : PySem.W.Frag) (CR : Addr) : Prop where
  c : Cls K CR
  nD : NoAttr K CR "delays"
  nU : NoAttr K CR "used"
  nN : NoAttr K CR "now"
  nP : NoAttr K CR "pats"
section
variable {P : Program} {w : World} {K : PySem.W.Frag} {mg : Str → Option Value} {base : Heap} {CR : Addr}
abbrev runF (LA PA : Addr) (u t : Int) : List (Str × V) := [("delays", .ref LA), ("used", .int u), ("now", .int t), ("pats", .ref PA)]
theorem lk_d {LA PA : Addr} {u t : Int} : (runF LA PA u t).lookup ("delays" : Str) = some (.ref LA) := rfl
theorem lk_u {LA PA : Addr} {u t : Int} : (runF LA PA u t).lookup ("used" : Str) = some (.int u) := rfl
theorem lk_n {LA PA : Addr} {u t : Int} : (runF LA PA u t).lookup ("now" : Str) = some (.int t) := rfl
theorem lk_p {LA PA : Addr} {u t : Int} : (runF LA PA u t).lookup ("pats" : Str) = some (.ref PA) := rfl
theorem lk_take {LA PA : Addr} {u t : Int} : (runF LA PA u t).lookup ("take" : Str) = none := rfl
theorem lk_follow {LA PA : Addr} {u t : Int} : (runF LA PA u t).lookup ("follow" : Str) = none := rfl
theorem put_u {LA PA : Addr} {u t z : Int} : putF ("used" : Str) (.int z) (runF LA PA u t) = runF LA PA z t := rfl
theorem put_n {LA PA : Addr} {u t z : Int} : putF ("now" : Str) (.int z) (runF LA PA u t) = runF LA PA u z := rfl
abbrev s_Run_init : Stmt := (C8.clsBody (top 24)).getD 0 (.Pass ⟨0, 0, 0, 0⟩)
abbrev s_Run_take : Stmt := (C8.clsBody (top 24)).getD 1 (.Pass ⟨0, 0, 0, 0⟩)
abbrev s_Run_follow : Stmt := (C8.clsBody (top 24)).getD 2 (.Pass ⟨0, 0, 0, 0⟩)
theorem sc_Run_take : FnScope ["self", "least", "most", "at", "delay"] ["self", "least", "most"] (C8.fnScope s_Run_take) := C8.fnScope_by (by decide +kernel)
def sp_take (K : PySem.W.Frag) (CR : Addr) : Sp := fun vs H Q _ => ∃ (R dx LA PA : Addr) (u : Nat) (t lo hi d : Int) (ds : List Int), vs = [.ref R, .int lo, .int hi] ∧ H R = some (.ins CR dx (runF LA PA u t)) ∧ SqL K H LA (ds.map V.int) ∧ ds[u]? = some d ∧ lo ≤ d ∧ d ≤ hi ∧
  Q (.int d) (upd H R (.ins CR dx (runF LA PA (u + 1 : Nat) t)))
theorem ok_take (T : TxtP K mg) (TR : TxtR K CR) {f : Addr} {fd : FuncData} (me : Meth K CR "take" f) (F : C8.Fun K "take" "Run.take" s_Run_take f fd) (b : Binds K fd ["self", "least", "most"] []) (g_is_number : C8.Cal P w K mg base 1 "is_number" sp_is_number []) : C8.Met P w K mg base 2 CR "take" (sp_take K CR) [] := by
  refine C8.met0 TR.c me F b sc_Run_take (fun vs H Q E h => ?_) fun cdv A outer s H vs Q E hr h => ?_
  · obtain ⟨R, dx, LA, PA, u, t, lo, hi, d, ds, rfl, _⟩ := h; rfl
  · obtain ⟨R, dx, LA, PA, u, t, lo, hi, d, ds, rfl, hR, hL, hd, h1, h2, q⟩ := h
    have nd := sc_Run_take.nd
    have hu : u < ds.length := (List.getElem?_eq_some_iff.mp hd).1
    refine ⟨_, (pss_cons (ps_set (i := 3) nd rfl (Or.inl rfl) (pe_fld (pv 0) rfl))
      (pss_cons (ps_if (pt_cmpR op_eq (pv 3) (pe_callB (r := Wd.rLen K) call_len1 (by rfl) T.n_len PySem.boot_len (pa_cons (pe_fld (pv 0) rfl) pa_nil)) (nomark _)) (pss_one ps_never) pss_nil)
      (pss_cons (ps_set (i := 4) nd rfl (Or.inl rfl) (pe_ix (r := rIxL K) ix_list (pe_fld (pv 0) rfl) (pv 3) (fun _ _ => rfl)))
      (pss_cons (ps_if (PW.pt (pw_or (pt_not (pt_val (C8.pe_c g_is_number hr (by first | decide | exact Nat.le_refl _ | omega) (by rfl) (pa_cons (pv 4) pa_nil)))) (pw_or1 (pt_not (pt_chain op_le op_le (pv 1) (pv 4) (pv 2)))))) (pss_one ps_never) pss_nil)
      (pss_cons (ps_fldaug (pv 0) pe_int in_add)
      (pss_one (ps_ret (pv 4)))))))), ?_⟩
    walk_at "go"
    refine ⟨_, rfl, R, CR, dx, _, _, rfl, hR, TR.c, TR.nU, lk_u, ?_⟩
    walk_at "go"
    refine ⟨_, rfl, R, CR, dx, _, _, rfl, hR, TR.c, TR.nD, lk_d, ?_⟩
    walk_at "go"
    refine g_len (.inl hL) ?_
    walk_at "go"
    rw [List.length_map]
    refine g_ite (fun h => absurd h (by omega)) (fun _ => ?_)
    walk_at "go"
    refine ⟨_, rfl, R, CR, dx, _, _, rfl, hR, TR.c, TR.nD, lk_d, ?_⟩
    walk_at "go"
    refine g_ixL hL (at_of (j := u) (v := .int d) rfl (by rw [List.getElem?_map, hd]; rfl)) ?_
    walk_at "go"
    refine ⟨d, rfl, ?_⟩
    walk_at "go"
    refine g_ite (fun _ => ?_) (fun h => absurd h1 h)
    walk_at "go"
    refine g_iteN (fun h => absurd h2 h) (fun _ => ?_)
    walk_at "go"
    refine ⟨_, rfl, R, CR, dx, _, _, rfl, hR, TR.c, TR.nU, lk_u, ?_⟩
    walk_at "go"
    refine ⟨_, _, rfl, rfl, ?_⟩
    refine ⟨_, _, hR, by show 4 < 1000; decide, ?_⟩
    walk_at "go"
    exact q

end
end K07
namespace K07
open PySem PySem.Spec PyProof.Rows L2 Wd
def Frm2 (S F : Addr) (H H' : Hp) : Prop := ∀ b o, b ≠ S → b ≠ F → H b = some o → H' b = some o
theorem Frm2.refl (S F : Addr) (H : Hp) : Frm2 S F H H := fun _ _ _ _ h => h
theorem Frm2.trans {S F : Addr} {H H1 H2 : Hp} (a : Frm2 S F H H1) (b : Frm2 S F H1 H2) : Frm2 S F H H2 := fun c o n1 n2 h => b c o n1 n2 (a c o n1 n2 h)
theorem Frm2.of1 {S F : Addr} {H H' : Hp} (f : Frm S H H') : Frm2 S F H H' := fun b o n _ h => f b o n h
theorem Frm2.set {S F : Addr} {H : Hp} {o : HO} : Frm2 S F H (upd H F o) := fun b u _ n h => by rw [upd_ne n]; exact h
theorem drop_at {α : Type} : ∀ {l : List α} {i : Nat} {x : α}, l[i]? = some x → l.drop i = x :: l.drop (i + 1)
  | _ :: _, 0, _, e => by cases e; rfl
  | _ :: l, i + 1, _, e => drop_at (l := l) (i := i) e
theorem keepT_of_frm {H H' : Hp} {PA : Addr} {xs : List V} (hP : H PA = some (.lst xs)) (f : Frm PA H H') : KeepT H H' := fun b ys h => f b _ (ne_of h hP (fun z => nomatch z)) h
section
variable {P : Program} {w : World} {K : PySem.W.Frag} {mg : Str → Option Value} {base : Heap} {CR : Addr}
theorem Frm2.setS {S F : Addr} {H : Hp} {o : HO} : Frm2 S F H (upd H S o) := fun b u n _ h => by rw [upd_ne n]; exact h
theorem keep2 {H H' : Hp} {R PA dx : Addr} {fs : List (Str × V)} {xs : List V} (hR : H R = some (.ins CR dx fs)) (hP : H PA = some (.lst xs)) (f : Frm2 R PA H H') : KeepT H H' := fun b ys h => f b _ (ne_of h hR (fun z => nomatch z)) (ne_of h hP (fun z => nomatch z)) h
theorem drop_cons {ds : List Int} {u : Nat} {d0 : Int} {rest : List Int} (e : ds.drop u = d0 :: rest) : ds[u]? = some d0 ∧ rest = ds.drop (u + 1) ∧ u + 1 ≤ ds.length := by
  have h1 : ds[u]? = some d0 := by
    have := congrArg (fun l => l[0]?) e
    simpa using this
  have hl := (List.getElem?_eq_some_iff.mp h1).1
  refine ⟨h1, ?_, hl⟩
  rw [drop_at h1] at e
  exact (List.cons.inj e).2.symm
theorem sc_Run_follow : FnScope ["self", "plan", "word", "part", "which", "times", "turn"] ["self", "plan"] (C8.fnScope s_Run_follow) := C8.fnScope_by (by decide +kernel)
def sp_follow (K : PySem.W.Frag) (CR : Addr) : Nat → Sp
  | 0 => fun _ _ _ _ => False
  | d + 1 => fun vs H Q _ => ∃ (R dx LA PA : Addr) (u : Nat) (t : Int) (v : V) (p : Pl) (l : Nat) (ds ps nq ds' : List Int) (t' : Int), vs = [.ref R, v] ∧ PlA H v p ∧ okP d l p ∧ H R = some (.ins CR dx (runF LA PA u t)) ∧ H LA = some (.lst (ds.map V.int)) ∧ LA ≠ PA ∧ H PA = some (.lst (ps.map V.int)) ∧
    u ≤ ds.length ∧ rn p (ds.drop u) t = some (nq, ds', t') ∧ ps.length + nq.length ≤ 50000 ∧
    ∀ H' (u' : Nat), Frm2 R PA H H' → u' ≤ ds.length → ds' = ds.drop u' → H' R = some (.ins CR dx (runF LA PA u' t')) → H' PA = some (.lst ((ps ++ nq).map V.int)) → Q .non H'
theorem follow_step (T : TxtP K mg) (TR : TxtR K CR) {d : Nat} {f : Addr} {fd : FuncData} (me : Meth K CR "follow" f) (F : C8.Fun K "follow" "Run.follow" s_Run_follow f fd) (b : Binds K fd ["self", "plan"] []) (m_take : C8.Met P w K mg base 2 CR "take" (sp_take K CR) [])
    (m_follow : C8.Met P w K mg base (d + 2) CR "follow" (sp_follow K CR d) []) : C8.Met P w K mg base (d + 3) CR "follow" (sp_follow K CR (d + 1)) [] := by
  refine C8.met0 TR.c me F b sc_Run_follow (fun vs H Q E h => ?_) fun cdv A outer s H vs Q E hr h => ?_
  · obtain ⟨R, dx, LA, PA, u, t, v, p, l, ds, ps, nq, ds', t', rfl, _⟩ := h; rfl
  · obtain ⟨R, dx, LA, PA, u, t, v, p, l, ds, ps, nq, ds', t', rfl, hp, ok, hR, hL, ne, hP, hu, r, sz, q⟩ := h
    have nd := sc_Run_follow.nd
    have nRP : R ≠ PA := ne_of hR hP (fun z => nomatch z)
    have nLR : LA ≠ R := ne_of hL hR (fun z => nomatch z)
    have hr : Room (d + 2) _ := hr
    refine ⟨_, (pss_cons (ps_set (i := 2) nd rfl (Or.inl rfl) (pe_ix (r := rIxT K) ix_tup (pv 1) pe_int (fun _ _ => rfl)))
      (pss_one (ps_if (pt_cmpR op_eq (pv 2) pe_str (nomark _)) (pss_one (ps_expr (pe_bmK (K := K) rfl PySem.F.plainAttrs_list PySem.F.slot_list_append PySem.F.type_list_append mt_append (pe_fld (pv 0) rfl) (pa_cons (pe_fld (pv 0) rfl) pa_nil)))) (pss_one (ps_if (pt_cmpR op_eq (pv 2) pe_str (nomark _)) (pss_one (ps_fldaug (pv 0) (C8.pe_mt m_take hr (by first | decide | exact Nat.le_refl _ | omega) (pv 0) (pa_cons (pe_ix (r := rIxT K) ix_tup (pv 1) pe_int (fun _ _ => rfl)) (pa_cons (pe_ix (r := rIxT K) ix_tup (pv 1) pe_int (fun _ _ => rfl)) pa_nil))) in_add)) (pss_one (ps_if (pt_cmpR op_eq (pv 2) pe_str (nomark _)) (pss_one (ps_for PassesOwn.never rfl (pi_tup (pe_ix (r := rIxT K) ix_tup (pv 1) pe_int (fun _ _ => rfl))) (pg_name (i := 3) nd rfl (Or.inl rfl)) (pss_one (ps_expr (C8.pe_mt m_follow hr (by first | decide | exact Nat.le_refl _ | omega) (pv 0) (pa_cons (pv 3) pa_nil)))))) (pss_one (ps_if (pt_cmpR op_eq (pv 2) pe_str (nomark _)) (pss_cons (ps_set (i := 4) nd rfl (Or.inl rfl) (C8.pe_mt m_take hr (by first | decide | exact Nat.le_refl _ | omega) (pv 0) (pa_cons pe_int (pa_cons (pe_op op_sub (pe_callB (r := Wd.rLen K) call_len1 (by rfl) T.n_len PySem.boot_len (pa_cons (pe_ix (r := rIxT K) ix_tup (pv 1) pe_int (fun _ _ => rfl)) pa_nil)) pe_int) pa_nil))))
      (pss_one (ps_expr (C8.pe_mt m_follow hr (by first | decide | exact Nat.le_refl _ | omega) (pv 0) (pa_cons (pe_ix (r := rIxT K) ix_tup (pe_ix (r := rIxT K) ix_tup (pv 1) pe_int (fun _ _ => rfl)) (pv 4) (fun _ _ => rfl)) pa_nil))))) (pss_cons (ps_set (i := 5) nd rfl (Or.inl rfl) (C8.pe_mt m_take hr (by first | decide | exact Nat.le_refl _ | omega) (pv 0) (pa_cons (pe_ix (r := rIxT K) ix_tup (pv 1) pe_int (fun _ _ => rfl)) (pa_cons (pe_ix (r := rIxT K) ix_tup (pv 1) pe_int (fun _ _ => rfl)) pa_nil))))
      (pss_one (ps_for PassesOwn.never rfl (pi_range1 rfl T.n_range (pa_cons (pv 5) pa_nil)) (pg_name (i := 6) nd rfl (Or.inl rfl)) (pss_one (ps_expr (C8.pe_mt m_follow hr (by first | decide | exact Nat.le_refl _ | omega) (pv 0) (pa_cons (pe_ix (r := rIxT K) ix_tup (pv 1) pe_int (fun _ _ => rfl)) pa_nil)))))))))))))))), ?_⟩
    cases hp with
    | pat ha =>
      walk_at "go"
      refine g_ixT (SqT.of ha) rfl ?_
      walk_at "go"
      refine ⟨_, rfl, R, CR, dx, _, _, rfl, hR, TR.c, TR.nP, lk_p, ?_⟩
      refine g_tyL hP ?_
      walk_at "go"
      refine ⟨_, rfl, R, CR, dx, _, _, rfl, hR, TR.c, TR.nN, lk_n, ?_⟩
      walk_at "go"
      simp only [rn, Option.some.injEq, Prod.mk.injEq] at r
      obtain ⟨rfl, rfl, rfl⟩ := r
      refine g_append hP (by rw [List.length_map]; omega) ?_
      walk_at "go"
      exact q _ u .set hu rfl (by rw [upd_ne nRP]; exact hR) (by rw [upd_same, List.map_append]; rfl)
    | @work a x y ha =>
      cases e : ds.drop u with
      | nil => rw [e] at r; simp only [rn] at r; cases r
      | cons d0 rest =>
      rw [e] at r
      obtain ⟨hd, er, hu1⟩ := drop_cons e
      simp only [rn] at r
      split at r
      case isFalse => cases r
      rename_i bd
      simp only [Option.some.injEq, Prod.mk.injEq] at r
      obtain ⟨rfl, rfl, rfl⟩ := r
      walk_at "go"
      refine g_ixT (SqT.of ha) rfl ?_
      walk_at "go"
      refine ⟨_, rfl, R, CR, dx, _, _, rfl, hR, TR.c, TR.nN, lk_n, ?_⟩
      refine ⟨_, rfl, R, dx, _, rfl, hR, lk_take, ?_⟩
      walk_at "go"
      refine g_ixT (SqT.of ha) rfl ?_
      walk_at "go"
      refine g_ixT (SqT.of ha) rfl ?_
      walk_at "go"
      refine ⟨R, dx, LA, PA, u, t, x, y, d0, ds, rfl, hR, SqL.of hL, hd, bd.1, bd.2, ?_⟩
      refine ⟨_, _, rfl, rfl, dx, _, upd_same, by show 4 < 1000; decide, ?_⟩
      walk_at "go"
      exact q _ (u + 1) (Frm2.setS.trans .setS) hu1 er upd_same (by rw [upd_ne nRP.symm, upd_ne nRP.symm, List.append_nil]; exact hP)
    | @row a c vs ps' ha hc hps =>
      match d, ok, m_follow with
      | 0, ok, _ => unfold okP at ok; exact ok.elim
      | d + 1, ok, m_follow =>
      unfold okP at ok
      have ln := hps.len
      simp only [rn] at r
      walk_at "go"
      refine g_ixT (SqT.of ha) rfl ?_
      walk_at "go"
      refine g_ixT (SqT.of ha) rfl ?_
      walk_at "go"
      refine w_tup (xs := vs) (fun i σ H' => ∃ (v3 v4 v5 v6 : Option V) (u1 : Nat) (np : List Int) (t1 : Int), σ = [some (.ref R), some (.ref a), some (.str "row"), v3, v4, v5, v6] ∧ Frm2 R PA H H' ∧ u1 ≤ ds.length ∧ H' R = some (.ins CR dx (runF LA PA u1 t1)) ∧ H' PA = some (.lst ((ps ++ np).map V.int)) ∧
        ∃ np2, rns (ps'.drop i) (ds.drop u1) t1 = some (np2, ds', t') ∧ np ++ np2 = nq) ?_ ?_ ?_ ?_
      · exact ⟨_, _, _, _, u, [], t, rfl, .refl _ _ _, hu, hR, by rw [List.append_nil]; exact hP, nq, by rw [List.drop_zero]; exact r, rfl⟩
      · rintro i σ H' _ ⟨v3, v4, v5, v6, u1, np, t1, _, f, _⟩
        exact SqT.of (keep2 hR hP f _ _ hc)
      · rintro i v σ H' hv ⟨v3, v4, v5, v6, u1, np, t1, rfl, f, hu1, hR1, hP1, np2, r2, e2⟩
        obtain ⟨q1, hq, pv⟩ := hps.at hv
        rw [drop_at hq, rns] at r2
        obtain ⟨a2, d2, t2, b2, g1, g2, rfl⟩ := seqR_inv r2
        have le2 : (ps ++ np).length + a2.length ≤ 50000 := by
          rw [← e2, List.length_append, List.length_append] at sz
          rw [List.length_append]
          omega
        walk_at "go"
        refine ⟨_, rfl, R, dx, _, rfl, hR1, lk_follow, ?_⟩
        walk_at "go"
        refine ⟨R, dx, LA, PA, u1, t1, v, q1, _, ds, ps ++ np, a2, d2, t2, rfl, PlA_keep (keep2 hR hP f) _ _ pv, okPs_at ok.2.2 hq, hR1, f _ _ nLR ne hL, ne, hP1, hu1, g1, le2, fun H2 u2 f2 hu2 eu2 hR2 hP2 => ?_⟩
        subst eu2
        walk_at "go"
        exact ⟨_, _, _, _, u2, np ++ a2, t2, rfl, f.trans f2, hu2, hR2, by rw [← List.append_assoc]; exact hP2, b2, g2, by rw [List.append_assoc]; exact e2⟩
      · rintro σ H' ⟨v3, v4, v5, v6, u1, np, t1, rfl, f, hu1, hR1, hP1, np2, r2, e2⟩
        rw [ln, List.drop_length, rns] at r2
        simp only [Option.some.injEq, Prod.mk.injEq] at r2
        obtain ⟨rfl, rfl, rfl⟩ := r2
        rw [List.append_nil] at e2
        subst e2
        walk_at "go"
        exact q _ u1 f hu1 rfl hR1 hP1
    | @either a c vs ps' ha hc hps =>
      match d, ok, m_follow with
      | 0, ok, _ => unfold okP at ok; exact ok.elim
      | d + 1, ok, m_follow =>
      unfold okP at ok
      have ln := hps.len
      cases e : ds.drop u with
      | nil => rw [e] at r; simp only [rn] at r; cases r
      | cons d0 rest =>
      rw [e] at r
      obtain ⟨hd, er, hu1⟩ := drop_cons e
      simp only [rn] at r
      split at r
      case isFalse => cases r
      rename_i d00
      obtain ⟨p, hpp, r⟩ := rnAt_some r
      have hi : d0.toNat < vs.length := by rw [ln]; exact (List.getElem?_eq_some_iff.mp hpp).1
      have hv0 : vs[d0.toNat]? = some vs[d0.toNat] := List.getElem?_eq_getElem hi
      obtain ⟨p', hp', pv⟩ := hps.at hv0
      cases hpp.symm.trans hp'
      walk_at "go"
      refine g_ixT (SqT.of ha) rfl ?_
      walk_at "go"
      refine ⟨_, rfl, R, dx, _, rfl, hR, lk_take, ?_⟩
      walk_at "go"
      refine g_ixT (SqT.of ha) rfl ?_
      walk_at "go"
      refine g_len (.inr (SqT.of hc)) ?_
      walk_at "go"
      refine ⟨R, dx, LA, PA, u, t, 0, _, d0, ds, rfl, hR, SqL.of hL, hd, d00, by omega, ?_⟩
      have f1 : Frm2 R PA H (upd H R (.ins CR dx (runF LA PA (u + 1 : Nat) t))) := .setS
      have k1 := keep2 hR hP f1
      walk_at "go"
      refine ⟨_, rfl, R, dx, _, rfl, upd_same, lk_follow, ?_⟩
      walk_at "go"
      refine g_ixT (SqT.of (k1 _ _ ha)) rfl ?_
      walk_at "go"
      refine g_ixT (v := vs[d0.toNat]) (SqT.of (k1 _ _ hc)) (at_of (j := d0.toNat) (by omega) hv0) ?_
      walk_at "go"
      refine ⟨R, dx, LA, PA, u + 1, t, _, p, _, ds, ps, nq, ds', t', rfl, PlA_keep k1 _ _ pv, okPs_at ok.2.2 hpp, upd_same, f1 _ _ nLR ne hL, ne, by rw [upd_ne nRP.symm]; exact hP, hu1, by rw [← er]; exact r, sz, fun H2 u2 f2 hu2 eu2 hR2 hP2 => ?_⟩
      walk_at "go"
      exact q _ u2 (f1.trans f2) hu2 eu2 hR2 hP2
    | @loop a x y w0 p ha hw =>
      match d, ok, m_follow with
      | 0, ok, _ => unfold okP at ok; exact ok.elim
      | d + 1, ok, m_follow =>
      match l, ok with
      | 0, ok => unfold okP at ok; exact ok.elim
      | l + 1, ok =>
      unfold okP at ok
      cases e : ds.drop u with
      | nil => rw [e] at r; simp only [rn] at r; cases r
      | cons d0 rest =>
      rw [e] at r
      obtain ⟨hd, er, hu1⟩ := drop_cons e
      simp only [rn] at r
      split at r
      case isFalse => cases r
      rename_i bd
      rw [iter_rep] at r
      walk_at "go"
      refine g_ixT (SqT.of ha) rfl ?_
      walk_at "go"
      refine ⟨_, rfl, R, dx, _, rfl, hR, lk_take, ?_⟩
      walk_at "go"
      refine g_ixT (SqT.of ha) rfl ?_
      walk_at "go"
      refine g_ixT (SqT.of ha) rfl ?_
      walk_at "go"
      refine ⟨R, dx, LA, PA, u, t, x, y, d0, ds, rfl, hR, SqL.of hL, hd, bd.1, bd.2, ?_⟩
      have f1 : Frm2 R PA H (upd H R (.ins CR dx (runF LA PA (u + 1 : Nat) t))) := .setS
      walk_at "go"
      refine w_range (by omega) (by omega) (fun i σ H' => ∃ (v3 v4 v6 : Option V) (u1 : Nat) (np : List Int) (t1 : Int), σ = [some (.ref R), some (.ref a), some (.str "loop"), v3, v4, some (.int d0), v6] ∧ Frm2 R PA H H' ∧ u1 ≤ ds.length ∧ H' R = some (.ins CR dx (runF LA PA u1 t1)) ∧ H' PA = some (.lst ((ps ++ np).map V.int)) ∧
        ∃ np2, rns (List.replicate (d0.toNat - i) p) (ds.drop u1) t1 = some (np2, ds', t') ∧ np ++ np2 = nq) ?_ ?_ ?_
      · exact ⟨_, _, _, u + 1, [], t, rfl, f1, hu1, upd_same, by rw [upd_ne nRP.symm, List.append_nil]; exact hP, nq, by rw [Nat.sub_zero, ← er]; exact r, rfl⟩
      · rintro i σ H' hi ⟨v3, v4, v6, u1, np, t1, rfl, f, hu2, hR1, hP1, np2, r2, e2⟩
        have es : d0.toNat - i = (d0.toNat - (i + 1)) + 1 := by omega
        rw [es, List.replicate_succ, rns] at r2
        obtain ⟨a2, d2, t2, b2, g1, g2, rfl⟩ := seqR_inv r2
        have le2 : (ps ++ np).length + a2.length ≤ 50000 := by
          rw [← e2, List.length_append, List.length_append] at sz
          rw [List.length_append]
          omega
        walk_at "go"
        refine ⟨_, rfl, R, dx, _, rfl, hR1, lk_follow, ?_⟩
        walk_at "go"
        refine g_ixT (SqT.of (keep2 hR hP f _ _ ha)) rfl ?_
        walk_at "go"
        refine ⟨R, dx, LA, PA, u1, t1, _, p, _, ds, ps ++ np, a2, d2, t2, rfl, PlA_keep (keep2 hR hP f) _ _ hw, ok.2.2.2, hR1, f _ _ nLR ne hL, ne, hP1, hu2, g1, le2, fun H2 u3 f2 hu3 eu2 hR2 hP2 => ?_⟩
        subst eu2
        walk_at "go"
        exact ⟨_, _, _, u3, np ++ a2, t2, rfl, f.trans f2, hu3, hR2, by rw [← List.append_assoc]; exact hP2, b2, g2, by rw [List.append_assoc]; exact e2⟩
      · rintro σ H' ⟨v3, v4, v6, u1, np, t1, rfl, f, hu2, hR1, hP1, np2, r2, e2⟩
        rw [Nat.sub_self, List.replicate_zero, rns] at r2
        simp only [Option.some.injEq, Prod.mk.injEq] at r2
        obtain ⟨rfl, rfl, rfl⟩ := r2
        rw [List.append_nil] at e2
        subst e2
        walk_at "go"
        exact q _ u1 f hu2 rfl hR1 hP1
theorem ok_follow (T : TxtP K mg) (TR : TxtR K CR) {f : Addr} {fd : FuncData} (me : Meth K CR "follow" f) (F : C8.Fun K "follow" "Run.follow" s_Run_follow f fd) (b : Binds K fd ["self", "plan"] []) (m_take : C8.Met P w K mg base 2 CR "take" (sp_take K CR) []) : ∀ n : Nat, C8.Met P w K mg base (n + 2) CR "follow" (sp_follow K CR n) []
  | 0 => ⟨f, fd, ["self", "plan"], [], TR.c, me, ⟨fun _ _ _ _ h => h.elim, fun _ _ _ _ _ _ _ _ _ _ _ _ _ h => h.elim⟩, b, .nil⟩
  | n + 1 => follow_step T TR me F b m_take (ok_follow T TR me F b m_take n)
end
end K07
namespace K07
open PySem PySem.Spec PyProof.Rows L2 Wd
section
variable {P : Program} {w : World} {K : PySem.W.Frag} {mg : Str → Option Value} {base : Heap} {CR : Addr}
theorem sc_Run_init : FnScope ["self", "delays"] ["self", "delays"] (C8.fnScope s_Run_init) := C8.fnScope_by (by decide +kernel)
def sp_init (CR : Addr) : Sp := fun vs H Q _ => ∃ (R dx LA : Addr), vs = [.ref R, .ref LA] ∧ H R = some (.ins CR dx []) ∧ ∀ H' PA, Frm R H H' → H PA = none → H' R = some (.ins CR dx (runF LA PA 0 0)) → H' PA = some (.lst []) → Q .non H'
theorem ok_init (T : TxtP K mg) (TR : TxtR K CR) {f : Addr} {fd : FuncData} (M : Mk K CR f) (hm : mg "Run" = some (.ref CR)) (F : C8.Fun K "__init__" "Run.__init__" s_Run_init f fd) (b : Binds K fd ["self", "delays"] []) : C8.Mak P w K mg base 1 "Run" CR (sp_init CR) [] := by
  refine C8.mak0 M hm F b .nil sc_Run_init (fun vs H Q E h => ?_) fun cdv A outer s H vs Q E hr h => ?_
  · obtain ⟨R, dx, LA, rfl, _⟩ := h; rfl
  · obtain ⟨R, dx, LA, rfl, hR, q⟩ := h
    have nd := sc_Run_init.nd
    refine ⟨_, (pss_cons (ps_fld (pv 0) (pv 1) rfl)
      (pss_cons (ps_fld (pv 0) pe_int rfl)
      (pss_cons (ps_fld (pv 0) pe_int rfl)
      (pss_one (ps_fld (pv 0) (pe_lst pa_nil) rfl))))), ?_⟩
    walk_at "go"
    refine ⟨_, rfl, _, rfl, R, CR, dx, _, rfl, hR, TR.c, TR.nD, by decide, ?_⟩
    walk_at "go"
    refine ⟨_, rfl, R, CR, dx, _, rfl, upd_same, TR.c, TR.nU, by show 1 < 1000; decide, ?_⟩
    walk_at "go"
    refine ⟨_, rfl, R, CR, dx, _, rfl, upd_same, TR.c, TR.nN, by show 2 < 1000; decide, ?_⟩
    walk_at "go"
    refine ⟨Nat.zero_le _, fun PA hPA => ⟨_, rfl, R, CR, dx, _, rfl, same_new hPA _ _ upd_same, TR.c, TR.nP, by show 3 < 1000; decide, ?_⟩⟩
    have f3 : Frm R H (upd (upd (upd H R (HO.ins CR dx (putF ("delays" : Str) (V.ref LA) []))) R (HO.ins CR dx (putF ("used" : Str) (V.int 0) (putF ("delays" : Str) (V.ref LA) [])))) R
      (HO.ins CR dx (putF ("now" : Str) (V.int 0) (putF ("used" : Str) (V.int 0) (putF ("delays" : Str) (V.ref LA) []))))) := (Frm.set.trans .set).trans .set
    have nPR : PA ≠ R := fun z => by rw [z, upd_same] at hPA; cases hPA
    walk_at "go"
    exact q _ PA ((f3.trans (.new hPA)).trans .set) (f3.back nPR hPA) upd_same (by rw [upd_ne nPR, upd_same])

abbrev s_run_plan : Stmt := top 25
theorem sc_run_plan : FnScope ["plan", "delays", "run"] ["plan", "delays"] (C8.fnScope s_run_plan) := C8.fnScope_by (by decide +kernel)
def sp_run_plan : Sp := fun vs H Q _ => ∃ (v : V) (p : Pl) (LA : Addr) (ds nq : List Int) (t' : Int), vs = [v, .ref LA] ∧ PlA H v p ∧ okP 4 2 p ∧ cnt p ≤ 30 ∧ H LA = some (.lst (ds.map V.int)) ∧ rn p ds 0 = some (nq, [], t') ∧ nq.length ≤ 50000 ∧
  ∀ H' r PA, Same H H' → H PA = none → H' r = some (.tup [.ref PA, .int t']) → H' PA = some (.lst (nq.map V.int)) → Q (.ref r) H'
theorem ok_run_plan (T : TxtP K mg) (TR : TxtR K CR) {f : Addr} {fd : FuncData} (D : C8.Def K mg "run_plan" s_run_plan f fd) (b : Binds K fd ["plan", "delays"] []) (g_check_plan : C8.Cal P w K mg base 4 "check_plan" (sp_check_plan K) [])
    (g_Run : C8.Mak P w K mg base 1 "Run" CR (sp_init CR) []) (m_follow : C8.Met P w K mg base 7 CR "follow" (sp_follow K CR 5) []) : C8.Cal P w K mg base 8 "run_plan" sp_run_plan [] := by
  refine C8.cal0 D b .nil sc_run_plan (fun vs H Q E h => ?_) fun cdv A outer s H vs Q E hr h => ?_
  · obtain ⟨v, p, LA, ds, nq, t', rfl, _⟩ := h; rfl
  · obtain ⟨v, p, LA, ds, nq, t', rfl, hp, ok, hc, hL, r, sz, q⟩ := h
    have nd := sc_run_plan.nd
    refine ⟨_, (pss_cons (ps_expr (C8.pe_c g_check_plan hr (by first | decide | exact Nat.le_refl _ | omega) (by rfl) (pa_cons (pv 0) pa_nil)))
      (pss_cons (ps_set (i := 2) nd rfl (Or.inl rfl) (C8.pe_mk g_Run hr (by first | decide | exact Nat.le_refl _ | omega) (by rfl) (pa_cons (pv 1) pa_nil)))
      (pss_cons (ps_expr (C8.pe_mt m_follow hr (by first | decide | exact Nat.le_refl _ | omega) (pv 2) (pa_cons (pv 0) pa_nil)))
      (pss_cons (ps_if (pt_cmpR op_lt (pe_fld (pv 2) rfl) (pe_callB (r := Wd.rLen K) call_len1 (by rfl) T.n_len PySem.boot_len (pa_cons (pv 1) pa_nil)) (nomark _)) (pss_one ps_never) pss_nil)
      (pss_one (ps_ret (pe_tup (pa_cons (pe_fld (pv 2) rfl) (pa_cons (pe_fld (pv 2) rfl) pa_nil))))))))), ?_⟩
    walk_at "go"
    refine ⟨v, p, 4, 2, rfl, hp, ok, by omega, by omega, hc, fun H1 s1 => ?_⟩
    walk_at "go"
    refine ⟨_, rfl, fun R dx hR hdx ndx => ?_⟩
    have s2 := s1.trans (same_new (o := .own R) hdx)
    have hR2 : upd H1 dx (.own R) R = none := by rw [upd_ne ndx.symm]; exact hR
    have s3 := s2.trans (same_new (o := .ins CR dx []) hR2)
    refine ⟨R, dx, LA, rfl, upd_same, fun H4 PA f4 hPA hR4 hP4 => ⟨rfl, ?_⟩⟩
    have hR0 : H R = none := Wd.Same.back s1 hR
    have hPA0 : H PA = none := Wd.Same.back s3 hPA
    have s4 : Same H H4 := fun a o h => f4 a o (fun z => by rw [z, hR0] at h; cases h) (s3 a o h)
    walk_at "go"
    refine ⟨_, rfl, R, dx, _, rfl, hR4, lk_follow, ?_⟩
    walk_at "go"
    refine ⟨R, dx, LA, PA, 0, 0, v, p, _, ds, [], nq, [], t', rfl, PlA_keep (keepT_same s4) _ _ hp, ok, hR4, s4 _ _ hL, (fun z => by rw [z, hPA0] at hL; cases hL), hP4, Nat.zero_le _, r, by simpa using sz, fun H5 u5 f5 hu5 eu5 hR5 hP5 => ?_⟩
    have s5 : Same H H5 := fun a o h => f5 a o (fun z => by rw [z, hR0] at h; cases h) (fun z => by rw [z, hPA0] at h; cases h) (s4 a o h)
    have eu : u5 = ds.length := by
      have := congrArg List.length eu5
      rw [List.length_drop, List.length_nil] at this
      omega
    walk_at "go"
    refine ⟨_, rfl, R, CR, dx, _, _, rfl, hR5, TR.c, TR.nU, lk_u, ?_⟩
    walk_at "go"
    refine g_len (.inl (SqL.of (s5 _ _ hL))) ?_
    walk_at "go"
    rw [List.length_map]
    refine g_ite (fun h => absurd h (by omega)) (fun _ => ?_)
    walk_at "go"
    refine ⟨_, rfl, R, CR, dx, _, _, rfl, hR5, TR.c, TR.nP, lk_p, ?_⟩
    walk_at "go"
    refine ⟨_, rfl, R, CR, dx, _, _, rfl, hR5, TR.c, TR.nN, lk_n, ?_⟩
    walk_at "go"
    intro z hz
    exact q _ z PA (s5.trans (same_new hz)) hPA0 upd_same (same_new hz _ _ (by simpa using hP5))
end
end K07
namespace K07
open PySem PySem.Spec PyProof.Rows L2 Wd
/-- .. and the names of windows and works -/
structure TxtW (K : PySem.W.Frag) (mg : Str → Option Value) (CW CB : Addr) : Prop extends TxtP K mg where
  n_enumerate : mg "enumerate" = none
  c_GREATEST_HIGH : ∃ t, mg "GREATEST_HIGH" = some (.int 1000 t)
  c_MOST_WORKS : ∃ t, mg "MOST_WORKS" = some (.int 10 t)
  g_BadWindow : mg "BadWindow" = some (.ref CW)
  x_BadWindow : PySem.W.excIn K CW [.type "ValueError", .type "Exception", .type "BaseException", .type "object"] "ValueError.__new__" = true
  k_BadWindow : PySem.W.keepIn K (.ref CW) = true
  b_BadWindow : PySem.W.subIn K (.ref CW) (.type "BaseException") = some true
  t_BadWindow : PySem.W.typeIn K (.ref CW) = some (.type "type")
  g_BadWorks : mg "BadWorks" = some (.ref CB)
  x_BadWorks : PySem.W.excIn K CB [.type "ValueError", .type "Exception", .type "BaseException", .type "object"] "ValueError.__new__" = true
  k_BadWorks : PySem.W.keepIn K (.ref CB) = true
  b_BadWorks : PySem.W.subIn K (.ref CB) (.type "BaseException") = some true
  t_BadWorks : PySem.W.typeIn K (.ref CB) = some (.type "type")
section
variable {P : Program} {w : World} {K : PySem.W.Frag} {mg : Str → Option Value} {base : Heap} {CW CB : Addr}
def sp_rangeB : Sp := fun vs H Q _ => ∃ i j k : Int, vs = [.int i, .int j, .int k] ∧ Q (.bl (decide (0 ≤ i ∧ i ≤ j ∧ j ≤ k))) H
theorem ok_rangeB (T : TxtW K mg CW CB) {f : Addr} {fd : FuncData} (D : C8.Def K mg "is_range" s_is_range f fd) (b : Binds K fd ["least", "most", "limit"] []) (g_is_number : C8.Cal P w K mg base 1 "is_number" sp_is_number []) : C8.Cal P w K mg base 2 "is_range" sp_rangeB [] := by
  refine C8.cal0 D b .nil sc_is_range (fun vs H Q E h => ?_) fun cdv A outer s H vs Q E hr h => ?_
  · obtain ⟨i, j, k, rfl, _⟩ := h; rfl
  · obtain ⟨i, j, k, rfl, q⟩ := h
    have nd := sc_is_range.nd
    refine ⟨_, (pss_one (ps_ret (pe_and (C8.pe_c g_is_number hr (by first | decide | exact Nat.le_refl _ | omega) (by rfl) (pa_cons (pv 0) pa_nil)) (pe_and (C8.pe_c g_is_number hr (by first | decide | exact Nat.le_refl _ | omega) (by rfl) (pa_cons (pv 1) pa_nil)) (pe_one (pe_chain3 op_le op_le op_le pe_int (pv 0) (pv 1) (pv 2))))))), ?_⟩
    walk_at "go"
    refine ⟨i, rfl, ?_⟩
    walk_at "go"
    refine ⟨j, rfl, ?_⟩
    walk_at "go"
    refine g_ite (fun h1 => ?_) (fun h1 => ?_)
    · walk_at "go"
      refine g_ite (fun h2 => ?_) (fun h2 => ?_)
      · walk_at "go"
        have e : decide (0 ≤ i ∧ i ≤ j ∧ j ≤ k) = decide (j ≤ k) := by simp [h1, h2]
        rw [e] at q; exact q
      · walk_at "go"
        have e : decide (0 ≤ i ∧ i ≤ j ∧ j ≤ k) = false := decide_eq_false (by omega)
        rw [e] at q; exact q
    · walk_at "go"
      have e : decide (0 ≤ i ∧ i ≤ j ∧ j ≤ k) = false := decide_eq_false (by omega)
      rw [e] at q; exact q

def okW (lo hi : Int) : Prop := 0 ≤ lo ∧ lo ≤ hi ∧ hi ≤ 1000
abbrev s_check_window : Stmt := top 28
theorem sc_check_window : FnScope ["window", "low", "high"] ["window"] (C8.fnScope s_check_window) := C8.fnScope_by (by decide +kernel)
def sp_check_window (K : PySem.W.Frag) (CW : Addr) : Sp := fun vs H Q E => ∃ (W : Addr) (lo hi : Int), vs = [.ref W] ∧ SqT K H W [.int lo, .int hi] ∧ (okW lo hi → Q .non H) ∧ (¬ okW lo hi → E (.ref CW) none H)
theorem ok_check_window (T : TxtW K mg CW CB) {f : Addr} {fd : FuncData} (D : C8.Def K mg "check_window" s_check_window f fd) (b : Binds K fd ["window"] []) (g_is_range : C8.Cal P w K mg base 2 "is_range" sp_rangeB []) : CalX P w K mg base 3 "check_window" (sp_check_window K CW) := by
  refine calX D b sc_check_window (fun vs H Q E h => ?_) fun cdv A outer s H vs Q E hr h => ?_
  · obtain ⟨W, lo, hi, rfl, _⟩ := h; rfl
  · obtain ⟨W, lo, hi, rfl, hW, q1, q2⟩ := h
    have nd := sc_check_window.nd
    obtain ⟨tg, c_GREATEST_HIGH⟩ := T.c_GREATEST_HIGH
    refine ⟨_, (pss_cons (ps_asg (pv 0) (pg_tup rfl (pgs_cons (pg_name (i := 1) nd rfl (Or.inl rfl)) (pgs_cons (pg_name (i := 2) nd rfl (Or.inl rfl)) pgs_nil))))
      (pss_one (ps_if (pt_not (pt_val (C8.pe_c g_is_range hr (by first | decide | exact Nat.le_refl _ | omega) (by rfl) (pa_cons (pv 1) (pa_cons (pv 2) (pa_cons (pe_glob (v := .int 1000) rfl c_GREATEST_HIGH ⟨_, rfl⟩) pa_nil)))))) (pss_one (ps_raise rfl (takes_of rfl rfl rfl rfl) (pmk_own PySem.F.excBase_ValueError T.x_BadWindow T.g_BadWindow T.k_BadWindow (raises_own T.b_BadWindow T.t_BadWindow) (by rfl)))) pss_nil))), ?_⟩
    walk_at "go"
    refine g_gtup hW rfl ?_
    walk_at "go"
    refine ⟨lo, hi, 1000, rfl, ?_⟩
    walk_at "go"
    refine g_iteN (fun hn => ?_) (fun hy => ?_)
    · exact q2 hn
    · walk_at "go"
      exact q1 hy

/-- works in a list -/
abbrev Wk := Addr × Int × Int
structure WkL (H : Hp) (L : Addr) (zs : List Wk) : Prop where
  at_ : H L = some (.lst (zs.map fun z => V.ref z.1))
  own : ∀ z ∈ zs, H z.1 = some (.tup [.int z.2.1, .int z.2.2])
theorem WkL.same {H H' : Hp} {L : Addr} {zs : List Wk} (w : WkL H L zs) (e : Same H H') : WkL H' L zs := ⟨e _ _ w.at_, fun z hz => e _ _ (w.own z hz)⟩
theorem zs_at {zs : List Wk} {i : Nat} {x : V} (h : (zs.map fun z => V.ref z.1)[i]? = some x) : ∃ z, zs[i]? = some z ∧ x = .ref z.1 := by
  rw [List.getElem?_map] at h
  cases hq : zs[i]? with
  | none => rw [hq] at h; cases h
  | some z => rw [hq] at h; exact ⟨z, rfl, (Option.some.inj h).symm⟩
theorem map_at2 {α : Type} {l : List α} {f : α → V} {i : Nat} {x : V} (h : (l.map f)[i]? = some x) : ∃ z, l[i]? = some z ∧ x = f z := by
  rw [List.getElem?_map] at h
  cases hq : l[i]? with
  | none => rw [hq] at h; cases h
  | some z => rw [hq] at h; exact ⟨z, rfl, (Option.some.inj h).symm⟩
theorem take_snocM {α β : Type} {l : List α} {i : Nat} {x : α} (f : α → β) (h : l[i]? = some x) : (l.take (i + 1)).map f = (l.take i).map f ++ [f x] := by
  rw [List.take_add_one, h, List.map_append]; rfl
def okZ (zs : List Wk) : Prop := 1 ≤ zs.length ∧ zs.length ≤ 10 ∧ ∀ z ∈ zs, 0 ≤ z.2.1 ∧ z.2.1 ≤ z.2.2 ∧ z.2.2 ≤ 1000
abbrev s_check_works : Stmt := top 31
theorem sc_check_works : FnScope ["works", "least", "most"] ["works"] (C8.fnScope s_check_works) := C8.fnScope_by (by decide +kernel)
def sp_check_works (CB : Addr) : Sp := fun vs H Q E => ∃ (L : Addr) (zs : List Wk), vs = [.ref L] ∧ WkL H L zs ∧ (okZ zs → Q .non H) ∧ (¬ okZ zs → E (.ref CB) none H)
theorem ok_check_works (T : TxtW K mg CW CB) {f : Addr} {fd : FuncData} (D : C8.Def K mg "check_works" s_check_works f fd) (b : Binds K fd ["works"] []) (g_is_range : C8.Cal P w K mg base 2 "is_range" sp_rangeB []) : CalX P w K mg base 3 "check_works" (sp_check_works CB) := by
  refine calX D b sc_check_works (fun vs H Q E h => ?_) fun cdv A outer s H vs Q E hr h => ?_
  · obtain ⟨L, zs, rfl, _⟩ := h; rfl
  · obtain ⟨L, zs, rfl, wk, q1, q2⟩ := h
    have nd := sc_check_works.nd
    obtain ⟨t1, c_MOST_WORKS⟩ := T.c_MOST_WORKS
    obtain ⟨t2, c_LONGEST_WORK⟩ := T.k_LONGEST_WORK
    refine ⟨_, (pss_cons (ps_if (pt_not (pt_chain op_le op_le pe_int (pe_callB (r := Wd.rLen K) call_len1 (by rfl) T.n_len PySem.boot_len (pa_cons (pv 0) pa_nil)) (pe_glob (v := .int 10) rfl c_MOST_WORKS ⟨_, rfl⟩))) (pss_one (ps_raise rfl (takes_of rfl rfl rfl rfl) (pmk_own PySem.F.excBase_ValueError T.x_BadWorks T.g_BadWorks T.k_BadWorks (raises_own T.b_BadWorks T.t_BadWorks) (by rfl)))) pss_nil)
      (pss_one (ps_for (passes_of rfl) rfl (pi_list (pv 0)) (pg_tup rfl (pgs_cons (pg_name (i := 1) nd rfl (Or.inl rfl)) (pgs_cons (pg_name (i := 2) nd rfl (Or.inl rfl)) pgs_nil))) (pss_one (ps_if (pt_not (pt_val (C8.pe_c g_is_range hr (by first | decide | exact Nat.le_refl _ | omega) (by rfl) (pa_cons (pv 1) (pa_cons (pv 2) (pa_cons (pe_glob (v := .int 1000) rfl c_LONGEST_WORK ⟨_, rfl⟩) pa_nil)))))) (pss_one (ps_raise rfl (takes_of rfl rfl rfl rfl) (pmk_own PySem.F.excBase_ValueError T.x_BadWorks T.g_BadWorks T.k_BadWorks (raises_own T.b_BadWorks T.t_BadWorks) (by rfl)))) pss_nil))))), ?_⟩
    walk_at "go"
    refine g_len (.inl (SqL.of wk.at_)) ?_
    walk_at "go"
    rw [List.length_map]
    refine g_ite (fun h1 => ?_) (fun h1 => ?_)
    · walk_at "go"
      by_cases h2 : (zs.length : Int) ≤ 10
      · rw [decide_eq_true h2]
        refine L2.iteF ?_
        have hl : 1 ≤ zs.length ∧ zs.length ≤ 10 := ⟨by omega, by omega⟩
        walk_at "go"
        refine w_list (xs := zs.map fun z => V.ref z.1) (fun i σ H' => H' = H ∧ (∃ (v1 v2 : Option V), σ = [some (.ref L), v1, v2]) ∧ ∀ j z, j < i → zs[j]? = some z → 0 ≤ z.2.1 ∧ z.2.1 ≤ z.2.2 ∧ z.2.2 ≤ 1000) ?_ ?_ ?_ ?_
        · exact ⟨rfl, ⟨_, _, rfl⟩, fun j z hj => by omega⟩
        · rintro i σ H' _ ⟨rfl, _⟩; exact SqL.of wk.at_
        · rintro i x σ H' hx ⟨rfl, ⟨v1, v2, rfl⟩, ok⟩
          obtain ⟨z, hz, rfl⟩ := zs_at hx
          have zm := List.mem_of_getElem? hz
          walk_at "go"
          refine g_gtup (SqT.of (wk.own z zm)) rfl ?_
          walk_at "go"
          refine ⟨z.2.1, z.2.2, 1000, rfl, ?_⟩
          walk_at "go"
          refine g_iteN (fun h2 => ?_) (fun h2 => ?_)
          · exact q2 (fun q => h2 (q.2.2 z zm))
          · walk_at "go"
            refine ⟨rfl, ⟨_, _, rfl⟩, fun j y hj hy => ?_⟩
            by_cases c : j < i
            · exact ok j y c hy
            · have : j = i := by omega
              subst this
              cases hz.symm.trans hy
              exact h2
        · rintro σ H' ⟨rfl, ⟨v1, v2, rfl⟩, ok⟩
          rw [List.length_map] at ok
          walk_at "go"
          refine q1 ⟨hl.1, hl.2, fun z hz => ?_⟩
          obtain ⟨j, hj, rfl⟩ := List.mem_iff_getElem.mp hz
          exact ok j _ hj (List.getElem?_eq_getElem hj)
      · rw [decide_eq_false h2]
        refine L2.iteT ?_
        exact q2 (fun z => h2 (by have := z.2.1; omega))
    · walk_at "go"
      exact q2 (fun z => h1 (by have := z.1; omega))

end
end K07
namespace K07
open PySem PySem.Spec PyProof.Rows L2 Wd
local macro_rules | `(tactic| walk_at "gs") => `(tactic| repeat (first
  | with_reducible refine Wd.g_seq ?_
  | ((with_reducible show L2.Ends.nx _ _ _); (with_reducible refine Wd.g_nx ?_))
  | with_reducible refine Wd.g_asg ?_
  | ((with_reducible refine' Wd.g_var ?h1 ?_); (case h1 => exact rfl))
  | with_reducible refine Wd.g_c ?_
  | with_reducible refine Wd.g_op ?_
  | with_reducible refine Wd.g_un ?_
  | with_reducible refine Wd.g_I0 ?_
  | with_reducible refine Wd.g_U ?_
  | with_reducible refine Wd.g_eqI ?_
  | with_reducible refine Wd.g_neI ?_
  | with_reducible refine Wd.g_eqS ?_
  | with_reducible refine Wd.g_neS ?_
  | with_reducible refine Wd.g_eqB ?_
  | with_reducible refine Wd.g_neB ?_
  | with_reducible refine Wd.g_isN ?_
  | with_reducible refine Wd.g_notN ?_
  | with_reducible refine Wd.g_lc ?_
  | with_reducible refine Wd.g_yes ?_
  | with_reducible refine Wd.g_test ?_
  | with_reducible refine Wd.g_tB ?_
  | with_reducible refine Wd.g_bl ?_
  | with_reducible refine Wd.g_blI ?_
  | with_reducible refine Wd.g_and ?_
  | with_reducible refine Wd.g_or ?_
  | with_reducible refine Wd.g_not ?_
  | with_reducible refine Wd.g_andV ?_
  | with_reducible refine Wd.g_orV ?_
  | with_reducible refine Wd.g_notV ?_
  | with_reducible refine Wd.g_if ?_
  | with_reducible refine Wd.g_chain ?_
  | with_reducible refine Wd.g_chain3 ?_
  | with_reducible refine Wd.g_nil ?_
  | with_reducible refine Wd.g_cons ?_
  | with_reducible refine Wd.g_tup ?_
  | with_reducible refine Wd.g_lst ?_
  | with_reducible refine Wd.g_CB ?_
  | with_reducible refine Wd.g_call ?_
  | with_reducible refine Wd.g_callS ?_
  | with_reducible refine Wd.g_bm ?_
  | with_reducible refine Wd.g_bm0 ?_
  | with_reducible refine Wd.g_sl ?_
  | with_reducible refine Wd.g_part ?_
  | with_reducible refine Wd.g_part1 ?_
  | with_reducible refine Wd.g_noPart ?_
  | with_reducible refine Wd.g_next ?_
  | with_reducible refine Wd.g_name ?_
  | with_reducible refine Wd.g_sub ?_
  | with_reducible refine Wd.g_gnil ?_
  | with_reducible refine Wd.g_gcons ?_
  | with_reducible refine Wd.g_drop ?_
  | with_reducible refine Wd.g_ret ?_
  | with_reducible refine Wd.g_retN ?_
  | with_reducible refine Wd.g_brk ?_
  | with_reducible refine Wd.g_cont ?_
  | ((with_reducible show L2.Ends.bk _ _ _); (with_reducible refine Wd.g_bk ?_))
  | ((with_reducible show L2.Ends.ct _ _ _); (with_reducible refine Wd.g_ct ?_))
  | ((with_reducible show L2.Ends.rt _ _ _); (with_reducible refine Wd.g_rt ?_))
  | with_reducible refine Wd.g_for ?_
  | with_reducible refine Wd.g_rng1 ?_
  | with_reducible refine Wd.g_rng2 ?_
  | with_reducible refine Wd.g_iList ?_
  | with_reducible refine Wd.g_iTup ?_
  | ((with_reducible refine Wd.g_fit ?h1 ?_); (case h1 => exact rfl))
  | with_reducible refine Wd.g_max2 ?_
  | with_reducible refine Wd.g_min2 ?_
  | with_reducible refine Wd.g_int1B ?_
  | with_reducible refine L2.iteT ?_
  | with_reducible refine L2.iteF ?_
  | ((with_reducible refine Wd.g_itT ?h1 ?_); (case h1 => exact rfl))
  | ((with_reducible refine Wd.g_itF ?h1 ?_); (case h1 => exact rfl))))
theorem inV_int (x : Int) : ∀ m : List Int, inV (.int x) (m.map V.int) = decide (x ∈ m)
  | [] => rfl
  | y :: ys => by
    have ih := inV_int x ys
    unfold inV at ih ⊢
    rw [List.map_cons, List.any_cons, ih]
    show ((y == x) || decide (x ∈ ys)) = decide (x ∈ y :: ys)
    by_cases c : y = x
    · subst c; simp
    · have : (y == x) = false := by simpa using c
      rw [this, Bool.false_or]
      have c' : ¬ x = y := fun z => c z.symm
      simp [c']
theorem flat_ints (m : List Int) : (m.map V.int).all flatV = true := by rw [List.all_eq_true]; intro y hy; obtain ⟨z, _, rfl⟩ := List.mem_map.mp hy; rfl
/-- rising places below n, all beyond l -/
def Ris (n : Int) : Int → List Int → Prop
  | _, [] => True
  | l, p :: ps => l < p ∧ p < n ∧ Ris n p ps
theorem drop_at2 {α : Type} : ∀ {l : List α} {i : Nat} {x : α}, l[i]? = some x → l.drop i = x :: l.drop (i + 1)
  | _ :: _, 0, _, e => by cases e; rfl
  | _ :: l, i + 1, _, e => drop_at2 (l := l) (i := i) e
section
variable {P : Program} {w : World} {K : PySem.W.Frag} {mg : Str → Option Value} {base : Heap} {CW CB : Addr}
abbrev s_check_places : Stmt := top 32
theorem sc_check_places : FnScope ["works", "places", "last", "place"] ["works", "places"] (C8.fnScope s_check_places) := C8.fnScope_by (by decide +kernel)
def sp_check_places (K : PySem.W.Frag) (CB : Addr) : Sp := fun vs H Q E => ∃ (L A : Addr) (zs : List Wk) (ps : List Int), vs = [.ref L, .ref A] ∧ WkL H L zs ∧ SqL K H A (ps.map V.int) ∧ (Ris zs.length (-1) ps → Q .non H) ∧ (¬ Ris zs.length (-1) ps → E (.ref CB) none H)
theorem ok_check_places (T : TxtW K mg CW CB) {f : Addr} {fd : FuncData} (D : C8.Def K mg "check_places" s_check_places f fd) (b : Binds K fd ["works", "places"] []) (g_is_number : C8.Cal P w K mg base 1 "is_number" sp_is_number []) : CalX P w K mg base 2 "check_places" (sp_check_places K CB) := by
  refine calX D b sc_check_places (fun vs H Q E h => ?_) fun cdv A outer s H vs Q E hr h => ?_
  · obtain ⟨L, A, zs, ps, rfl, _⟩ := h; rfl
  · obtain ⟨L, A, zs, ps, rfl, wk, hA, q1, q2⟩ := h
    have nd := sc_check_places.nd
    refine ⟨_, (pss_cons (ps_set (i := 2) nd rfl (Or.inl rfl) (pe_un un_neg pe_int))
      (pss_one (ps_for (passes_of rfl) rfl (pi_list (pv 1)) (pg_name (i := 3) nd rfl (Or.inl rfl)) (pss_cons (ps_if (PW.pt (pw_or (pt_not (pt_val (C8.pe_c g_is_number hr (by first | decide | exact Nat.le_refl _ | omega) (by rfl) (pa_cons (pv 3) pa_nil)))) (pw_or1 (pt_not (pt_chain op_lt op_lt (pv 2) (pv 3) (pe_callB (r := Wd.rLen K) call_len1 (by rfl) T.n_len PySem.boot_len (pa_cons (pv 0) pa_nil))))))) (pss_one (ps_raise rfl (takes_of rfl rfl rfl rfl) (pmk_own PySem.F.excBase_ValueError T.x_BadWorks T.g_BadWorks T.k_BadWorks (raises_own T.b_BadWorks T.t_BadWorks) (by rfl)))) pss_nil)
      (pss_one (ps_set (i := 2) nd rfl (Or.inl rfl) (pv 3))))))), ?_⟩
    walk_at "go"
    refine w_list (xs := ps.map V.int) (fun i σ H' => H' = H ∧ ∃ (last : Int) (v3 : Option V), σ = [some (.ref L), some (.ref A), some (.int last), v3] ∧ (Ris zs.length (-1) ps ↔ Ris zs.length last (ps.drop i))) ?_ ?_ ?_ ?_
    · exact ⟨rfl, -1, _, rfl, Iff.rfl⟩
    · rintro i σ H' _ ⟨rfl, _⟩; exact hA
    · rintro i x σ H' hx ⟨rfl, last, v3, rfl, iff⟩
      obtain ⟨p, hp, rfl⟩ := map_at2 hx
      rw [drop_at2 hp] at iff
      walk_at "go"
      refine ⟨p, rfl, ?_⟩
      walk_at "go"
      refine g_ite (fun h1 => ?_) (fun h1 => ?_)
      · walk_at "go"
        refine g_len (.inl (SqL.of wk.at_)) ?_
        walk_at "go"
        rw [List.length_map]
        by_cases h2 : p < (zs.length : Int)
        · rw [decide_eq_true h2]
          refine L2.iteF ?_
          walk_at "go"
          exact ⟨rfl, p, _, rfl, iff.trans ⟨fun z => z.2.2, fun z => ⟨h1, h2, z⟩⟩⟩
        · rw [decide_eq_false h2]
          refine L2.iteT ?_
          exact q2 (fun z => h2 (iff.mp z).2.1)
      · walk_at "go"
        exact q2 (fun z => h1 (iff.mp z).1)
    · rintro σ H' ⟨rfl, last, v3, rfl, iff⟩
      walk_at "go"
      exact q1 (iff.mpr (by rw [List.length_map, List.drop_length]; trivial))

/-- works from the i-th on, a pat behind each of these places -/
def pw (ps : List Int) : Nat → List (Int × Int) → List Pl
  | _, [] => []
  | i, z :: zs => .work z.1 z.2 :: ((if (i : Int) ∈ ps then [.pat] else []) ++ pw ps (i + 1) zs)
theorem pw_app (ps : List Int) : ∀ (a b : List (Int × Int)) (i : Nat), pw ps i (a ++ b) = pw ps i a ++ pw ps (i + a.length) b
  | [], b, i => rfl
  | z :: a, b, i => by
    have e : i + 1 + a.length = i + (z :: a).length := by rw [List.length_cons]; omega
    rw [List.cons_append, pw, pw, pw_app ps a b (i + 1), e, List.cons_append, List.append_assoc]
theorem pw_take (ps : List Int) {zs : List (Int × Int)} {i : Nat} {z : Int × Int} (h : zs[i]? = some z) : pw ps 0 (zs.take (i + 1)) = pw ps 0 (zs.take i) ++ .work z.1 z.2 :: (if (i : Int) ∈ ps then [.pat] else []) := by
  have hl := (List.getElem?_eq_some_iff.mp h).1
  rw [List.take_add_one, h]
  show pw ps 0 (zs.take i ++ [z]) = _
  rw [pw_app, List.length_take, Nat.min_eq_left (Nat.le_of_lt hl), Nat.zero_add]
  simp only [pw, List.append_nil]
theorem pw_len (ps : List Int) : ∀ (zs : List (Int × Int)) (i : Nat), (pw ps i zs).length ≤ 2 * zs.length
  | [], _ => Nat.le_refl _
  | z :: zs, i => by
    have ih := pw_len ps zs (i + 1)
    rw [pw, List.length_cons, List.length_append, List.length_cons]
    split
    · rw [List.length_singleton]; omega
    · rw [List.length_nil]; omega
theorem pw_pos (ps : List Int) {zs : List (Int × Int)} (i : Nat) (h : 0 < zs.length) : 0 < (pw ps i zs).length := by
  cases zs with
  | nil => cases h
  | cons z zs => rw [pw, List.length_cons]; omega
abbrev s_plan_with : Stmt := top 33
theorem sc_plan_with : FnScope ["works", "places", "parts", "place", "least", "most"] ["works", "places"] (C8.fnScope s_plan_with) := C8.fnScope_by (by decide +kernel)
def sp_plan_with (K : PySem.W.Frag) (CB : Addr) : Sp := fun vs H Q E => ∃ (L A : Addr) (zs : List Wk) (ps : List Int), vs = [.ref L, .ref A] ∧ WkL H L zs ∧ SqL K H A (ps.map V.int) ∧ ps.length ≤ 100 ∧
  (okZ zs → Ris zs.length (-1) ps → ∀ H' r, Same H H' → PlA H' (.ref r) (.row (pw ps 0 (zs.map (·.2)))) → Q (.ref r) H') ∧ (¬ (okZ zs ∧ Ris zs.length (-1) ps) → E (.ref CB) none H)
theorem ok_plan_with (T : TxtW K mg CW CB) {f : Addr} {fd : FuncData} (D : C8.Def K mg "plan_with" s_plan_with f fd) (b : Binds K fd ["works", "places"] []) (g_check_works : CalX P w K mg base 3 "check_works" (sp_check_works CB)) (g_check_places : CalX P w K mg base 2 "check_places" (sp_check_places K CB)) : CalX P w K mg base 4 "plan_with" (sp_plan_with K CB) := by
  refine calX D b sc_plan_with (fun vs H Q E h => ?_) fun cdv A outer s H vs Q E hr h => ?_
  · obtain ⟨L, A, zs, ps, rfl, _⟩ := h; rfl
  · obtain ⟨L, A, zs, ps, rfl, wk, hA, pl, q1, q2⟩ := h
    have nd := sc_plan_with.nd
    refine ⟨_, (pss_cons (ps_expr (pe_cX g_check_works hr (by first | decide | exact Nat.le_refl _ | omega) (by rfl) (fun σ => passAt (takes_of rfl rfl rfl rfl) σ) (pa_cons (pv 0) pa_nil)))
      (pss_cons (ps_expr (pe_cX g_check_places hr (by first | decide | exact Nat.le_refl _ | omega) (by rfl) (fun σ => passAt (takes_of rfl rfl rfl rfl) σ) (pa_cons (pv 0) (pa_cons (pv 1) pa_nil))))
      (pss_cons (ps_set (i := 2) nd rfl (Or.inl rfl) (pe_lst pa_nil))
      (pss_cons (ps_for (passes_of rfl) rfl (pi_enum (by rfl) T.n_enumerate (pa_cons (pv 0) pa_nil)) (pg_tup rfl (pgs_cons (pg_name (i := 3) nd rfl (Or.inl rfl)) (pgs_cons (pg_tup rfl (pgs_cons (pg_name (i := 4) nd rfl (Or.inl rfl)) (pgs_cons (pg_name (i := 5) nd rfl (Or.inl rfl)) pgs_nil))) pgs_nil))) (pss_cons (ps_expr (pe_bmK (K := K) rfl PySem.F.plainAttrs_list PySem.F.slot_list_append PySem.F.type_list_append mt_append (pv 2) (pa_cons (pe_tup (pa_cons pe_str (pa_cons (pv 4) (pa_cons (pv 5) pa_nil)))) pa_nil)))
      (pss_one (ps_if (pt_cmpR (r := rIn K false) op_in_seq (pv 3) (pv 1) (by with_unfolding_all rfl)) (pss_one (ps_expr (pe_bmK (K := K) rfl PySem.F.plainAttrs_list PySem.F.slot_list_append PySem.F.type_list_append mt_append (pv 2) (pa_cons (pe_tup (pa_cons pe_str pa_nil)) pa_nil)))) pss_nil))))
      (pss_one (ps_ret (pe_tup (pa_cons pe_str (pa_cons (pe_callTy (r := rTupOf K) call_tuple1 (by rfl) T.n_tuple (by decide +kernel) (pa_cons (pv 2) pa_nil)) pa_nil))))))))), ?_⟩
    walk_at "go"
    refine ⟨L, zs, rfl, wk, fun okz => ?_, fun bad => q2 fun z => bad z.1⟩
    walk_at "go"
    refine ⟨L, A, zs, ps, rfl, wk, hA, fun ris => ?_, fun bad => q2 fun z => bad z.2⟩
    walk_at "go"
    intro R hR
    have s1 := same_new (o := .lst []) hR
    have e1 := upd_same (H := H) (a := R) (o := .lst [])
    generalize upd H R (.lst []) = H1 at s1 e1
    walk_at "go"
    refine g_enum ?_
    walk_at "go"
    have zl : zs.length ≤ 10 := okz.2.1
    refine w_enum (xs := zs.map fun z => V.ref z.1) (fun i σ H' => ∃ (vs : List V) (v3 v4 v5 : Option V), σ = [some (.ref L), some (.ref A), some (.ref R), v3, v4, v5] ∧ Same H H' ∧ H' R = some (.lst vs) ∧ PlAs H' vs (pw ps 0 ((zs.map (·.2)).take i))) ?_ ?_ ?_ ?_
    · exact ⟨[], _, _, _, rfl, s1, e1, .nil⟩
    · rintro i σ H' _ ⟨vs, v3, v4, v5, rfl, s2, _, _⟩
      exact SqL.of (s2 _ _ wk.at_)
    · rintro i x Tp σ H2 hx ⟨vs, v3, v4, v5, rfl, s2, e2, pa⟩ hTp
      obtain ⟨z, hz, rfl⟩ := zs_at hx
      have zm := List.mem_of_getElem? hz
      have hz2 : (zs.map (·.2))[i]? = some z.2 := by rw [List.getElem?_map, hz]; rfl
      have sT := same_new (o := .tup [.int (i : Nat), .ref z.1]) hTp
      walk_at "go"
      refine g_gtup (SqT.of upd_same) rfl ?_
      have s3 := s2.trans sT
      have e3 := sT _ _ e2
      have pa3 := PlAs_keep (keepT_same sT) _ _ pa
      generalize upd H2 Tp (.tup [.int (i : Nat), .ref z.1]) = H3 at s3 e3 pa3
      walk_at "go"
      refine g_gtup (SqT.of (s3 _ _ (wk.own z zm))) rfl ?_
      walk_at "go"
      refine g_tyL e3 ?_
      walk_at "go"
      intro W hW
      have sW := same_new (o := .tup [.str "work", .int z.2.1, .int z.2.2]) hW
      have hw : upd H3 W (.tup [.str "work", .int z.2.1, .int z.2.2]) W = some (.tup [.str "work", .int z.2.1, .int z.2.2]) := upd_same
      have s4 := s3.trans sW
      have e4 := sW _ _ e3
      have pa4 := PlAs.snoc (PlAs_keep (keepT_same sW) _ _ pa3) (.work hw)
      generalize upd H3 W (.tup [.str "work", .int z.2.1, .int z.2.2]) = H4 at s4 e4 pa4
      have vl : vs.length ≤ 20 := by
        rw [pa.len]
        have := pw_len ps ((zs.map (·.2)).take i) 0
        have h2 : ((zs.map (·.2)).take i).length ≤ (zs.map (·.2)).length := by rw [List.length_take]; omega
        rw [List.length_map] at h2
        omega
      walk_at "go"
      refine g_append e4 (by omega) ?_
      have s5 : Same H (upd H4 R (.lst (vs ++ [.ref W]))) := Wd.Same.mut s4 hR
      have pa5 := PlAs_keep (keepT_lst (o := .lst (vs ++ [.ref W])) e4) _ _ pa4
      have e5 := upd_same (H := H4) (a := R) (o := .lst (vs ++ [.ref W]))
      generalize upd H4 R (.lst (vs ++ [.ref W])) = H5 at s5 pa5 e5
      walk_at "go"
      refine ⟨A, ps.map V.int, rfl, .inl (list_same s5 hA), rfl, flat_ints ps, ?_⟩
      rw [if_neg (by decide), inV_int]
      refine ⟨_, rfl, ?_⟩
      have pt := pw_take ps hz2
      refine g_ite (fun hin => ?_) (fun hin => ?_)
      · rw [if_pos hin] at pt
        walk_at "go"
        refine g_tyL e5 ?_
        walk_at "go"
        intro Y hY
        have sY := same_new (o := .tup [.str "pat"]) hY
        have hy : upd H5 Y (.tup [.str "pat"]) Y = some (.tup [.str "pat"]) := upd_same
        have e6 := sY _ _ e5
        have s6 := s5.trans sY
        have pa6 := PlAs.snoc (PlAs_keep (keepT_same sY) _ _ pa5) (.pat hy)
        generalize upd H5 Y (.tup [.str "pat"]) = H6 at s6 e6 pa6
        walk_at "go"
        refine g_append e6 (by rw [List.length_append, List.length_singleton]; omega) ?_
        have pa7 := PlAs_keep (keepT_lst (o := .lst ((vs ++ [.ref W]) ++ [.ref Y])) e6) _ _ pa6
        walk_at "go"
        refine ⟨_, _, _, _, rfl, Wd.Same.mut s6 hR, upd_same, ?_⟩
        rw [pt]
        have ea : ∀ (l : List Pl) (a b : Pl), l ++ [a, b] = (l ++ [a]) ++ [b] := fun l a b => by rw [List.append_assoc]; rfl
        rw [ea]; exact pa7
      · rw [if_neg hin] at pt
        walk_at "go"
        exact ⟨_, _, _, _, rfl, s5, e5, by rw [pt]; exact pa5⟩
    · rintro σ H' ⟨vs, v3, v4, v5, rfl, s2, e2, pa⟩
      rw [List.length_map, ← List.length_map (as := zs) (f := (·.2)), List.take_length] at pa
      walk_at "go"
      refine g_tupOf (SqL.of e2) fun l hl => ?_
      have sl := same_new (o := .tup vs) hl
      have hlv : upd H' l (.tup vs) l = some (.tup vs) := upd_same
      have s3 := s2.trans sl
      have pa3 := PlAs_keep (keepT_same sl) _ _ pa
      generalize upd H' l (.tup vs) = H3 at s3 pa3 hlv
      walk_at "go"
      intro r hr'
      have sr := same_new (o := .tup [.str "row", .ref l]) hr'
      exact q1 okz ris _ r (s3.trans sr) (.row upd_same (sr _ _ hlv) (PlAs_keep (keepT_same sr) _ _ pa3))
end
end K07
namespace K07
open PySem PySem.Spec PyProof.Rows L2 Wd
section
variable {P : Program} {w : World} {K : PySem.W.Frag} {mg : Str → Option Value} {base : Heap} {CW CB CR : Addr}
abbrev s_Ring_init : Stmt := (C8.clsBody (top 34)).getD 0 (.Pass ⟨0, 0, 0, 0⟩)
theorem sc_Ring_init : FnScope ["self", "window", "works"] ["self", "window", "works"] (C8.fnScope s_Ring_init) := C8.fnScope_by (by decide +kernel)
/-- asked only where it refuses -/
def Bad (K : PySem.W.Frag) (CW CB W L : Addr) (H : Hp) (E : XK) : Prop := ∃ (lo hi : Int) (zs : List Wk), SqT K H W [.int lo, .int hi] ∧ WkL H L zs ∧ ((¬ okW lo hi ∧ ∀ H', Same H H' → E (.ref CW) none H') ∨ (okW lo hi ∧ ¬ okZ zs ∧ ∀ H', Same H H' → E (.ref CB) none H'))
theorem Bad.same {CW CB W L : Addr} {H H' : Hp} {E : XK} (b : Bad K CW CB W L H E) (e : Same H H') : Bad K CW CB W L H' E := by
  obtain ⟨lo, hi, zs, h1, h2, h3⟩ := b
  refine ⟨lo, hi, zs, tup_same e h1, h2.same e, ?_⟩
  rcases h3 with ⟨a, c⟩ | ⟨a, c, d⟩
  · exact .inl ⟨a, fun J s => c J (e.trans s)⟩
  · exact .inr ⟨a, c, fun J s => d J (e.trans s)⟩
def sp_ring (K : PySem.W.Frag) (CW CB : Addr) : Sp := fun vs H Q E => ∃ (R W L : Addr), vs = [.ref R, .ref W, .ref L] ∧ Bad K CW CB W L H E
theorem ok_ring (T : TxtW K mg CW CB) {f : Addr} {fd : FuncData} (M : Mk K CR f) (hm : mg "Ring" = some (.ref CR)) (F : C8.Fun K "__init__" "Ring.__init__" s_Ring_init f fd) (b : Binds K fd ["self", "window", "works"] []) (g_check_window : CalX P w K mg base 3 "check_window" (sp_check_window K CW)) (g_check_works : CalX P w K mg base 3 "check_works" (sp_check_works CB)) : MakX P w K mg base 4 "Ring" CR (sp_ring K CW CB) := by
  refine makX M hm F b sc_Ring_init (fun vs H Q E h => ?_) fun cdv A outer s H vs Q E hr h => ?_
  · obtain ⟨R, W, L, rfl, _⟩ := h; rfl
  · obtain ⟨R, W, L, rfl, lo, hi, zs, hW, wk, bad⟩ := h
    have nd := sc_Ring_init.nd
    refine ⟨_, (pss_cons (ps_expr (pe_cX g_check_window hr (by first | decide | exact Nat.le_refl _ | omega) (by rfl) (fun σ => passAt (takes_of rfl rfl rfl rfl) σ) (pa_cons (pv 1) pa_nil)))
      (pss_cons (ps_expr (pe_cX g_check_works hr (by first | decide | exact Nat.le_refl _ | omega) (by rfl) (fun σ => passAt (takes_of rfl rfl rfl rfl) σ) (pa_cons (pv 2) pa_nil)))
      pss_cut)), ?_⟩
    walk_at "go"
    refine ⟨W, lo, hi, rfl, hW, fun ok => ?_, fun no => ?_⟩
    · walk_at "go"
      refine ⟨L, zs, rfl, wk, fun okz => ?_, fun noz => ?_⟩
      · rcases bad with ⟨a, _⟩ | ⟨_, a, _⟩
        · exact (a ok).elim
        · exact (a okz).elim
      · rcases bad with ⟨a, _⟩ | ⟨_, _, q⟩
        · exact (a ok).elim
        · exact q _ fun _ _ z => z
    · rcases bad with ⟨_, q⟩ | ⟨a, _⟩
      · exact q _ fun _ _ z => z
      · exact (no a).elim
theorem make_bad {W L C : Addr} {H : Hp} {Q : VK} {E : XK} {vs : List V} (h : vs = [.ref W, .ref L]) (b : Bad K CW CB W L H E) : ∀ x dx, H x = none → H dx = none → dx ≠ x → sp_ring K CW CB (.ref x :: (vs ++ [])) (upd (upd H dx (.own x)) x (.ins C dx [])) Q E := fun x dx h1 h2 h3 => by
  subst h
  have s1 := same_new (o := .own x) h2
  have h4 : upd H dx (.own x) x = none := by rw [upd_ne (fun z => h3 z.symm)]; exact h1
  exact ⟨x, W, L, rfl, b.same (s1.trans (same_new h4))⟩
abbrev s_fewest : Stmt := top 35
theorem sc_fewest : FnScope ["window", "works", "ring", "rows", "first", "row", "place"] ["window", "works"] (C8.fnScope s_fewest) := C8.fnScope_by (by decide +kernel)
def sp_bad2 (K : PySem.W.Frag) (CW CB : Addr) : Sp := fun vs H Q E => ∃ (W L : Addr), vs = [.ref W, .ref L] ∧ Bad K CW CB W L H E
def sp_bad3 (K : PySem.W.Frag) (CW CB : Addr) : Sp := fun vs H Q E => ∃ (W L : Addr) (n : Int), vs = [.ref W, .ref L, .int n] ∧ Bad K CW CB W L H E
theorem ok_fewest (T : TxtW K mg CW CB) {f : Addr} {fd : FuncData} (D : C8.Def K mg "fewest" s_fewest f fd) (b : Binds K fd ["window", "works"] []) (g_Ring : MakX P w K mg base 4 "Ring" CR (sp_ring K CW CB)) : CalX P w K mg base 6 "fewest" (sp_bad2 K CW CB) := by
  refine calX D b sc_fewest (fun vs H Q E h => ?_) fun cdv A outer s H vs Q E hr h => ?_
  · obtain ⟨W, L, rfl, _⟩ := h; rfl
  · obtain ⟨W, L, rfl, bad⟩ := h
    have nd := sc_fewest.nd
    refine ⟨_, (pss_cons (ps_set (i := 2) nd rfl (Or.inr rfl) (pe_mkX (E := E) g_Ring hr (by first | decide | exact Nat.le_refl _ | omega) (by rfl) (passes_call (W := fun c d _ H => E c d H) (takes_of rfl rfl rfl rfl) (fun _ _ _ _ h => h)) (pa_cons (pv 0) (pa_cons (pv 1) pa_nil))))
      pss_cut), ?_⟩
    walk_at "go"
    unfold tMake
    walk_at "go"
    exact make_bad (Q := fun _ _ => False) rfl bad
abbrev s_levels_from : Stmt := top 36
theorem sc_levels_from : FnScope ["window", "works", "first", "ring"] ["window", "works", "first"] (C8.fnScope s_levels_from) := C8.fnScope_by (by decide +kernel)
theorem ok_levels_from (T : TxtW K mg CW CB) {f : Addr} {fd : FuncData} (D : C8.Def K mg "levels_from" s_levels_from f fd) (b : Binds K fd ["window", "works", "first"] []) (g_Ring : MakX P w K mg base 4 "Ring" CR (sp_ring K CW CB)) : CalX P w K mg base 6 "levels_from" (sp_bad3 K CW CB) := by
  refine calX D b sc_levels_from (fun vs H Q E h => ?_) fun cdv A outer s H vs Q E hr h => ?_
  · obtain ⟨W, L, n, rfl, _⟩ := h; rfl
  · obtain ⟨W, L, n, rfl, bad⟩ := h
    have nd := sc_levels_from.nd
    refine ⟨_, (pss_cons (ps_set (i := 3) nd rfl (Or.inl rfl) (pe_mkX (E := E) g_Ring hr (by first | decide | exact Nat.le_refl _ | omega) (by rfl) (passes_call (W := fun c d _ H => E c d H) (takes_of rfl rfl rfl rfl) (fun _ _ _ _ h => h)) (pa_cons (pv 0) (pa_cons (pv 1) pa_nil))))
      pss_cut), ?_⟩
    walk_at "go"
    unfold tMake
    walk_at "go"
    exact make_bad (Q := fun _ _ => False) rfl bad
abbrev s_shown : Stmt := top 37
theorem sc_shown : FnScope ["window", "works", "many", "ring", "looked_at", "first"] ["window", "works", "many"] (C8.fnScope s_shown) := C8.fnScope_by (by decide +kernel)
theorem ok_shown (T : TxtW K mg CW CB) {f : Addr} {fd : FuncData} (D : C8.Def K mg "shown" s_shown f fd) (b : Binds K fd ["window", "works", "many"] []) (g_Ring : MakX P w K mg base 4 "Ring" CR (sp_ring K CW CB)) : CalX P w K mg base 6 "shown" (sp_bad3 K CW CB) := by
  refine calX D b sc_shown (fun vs H Q E h => ?_) fun cdv A outer s H vs Q E hr h => ?_
  · obtain ⟨W, L, n, rfl, _⟩ := h; rfl
  · obtain ⟨W, L, n, rfl, bad⟩ := h
    have nd := sc_shown.nd
    refine ⟨_, (pss_cons (ps_set (i := 3) nd rfl (Or.inl rfl) (pe_mkX (E := E) g_Ring hr (by first | decide | exact Nat.le_refl _ | omega) (by rfl) (passes_call (W := fun c d _ H => E c d H) (takes_of rfl rfl rfl rfl) (fun _ _ _ _ h => h)) (pa_cons (pv 0) (pa_cons (pv 1) pa_nil))))
      pss_cut), ?_⟩
    walk_at "go"
    unfold tMake
    walk_at "go"
    exact make_bad (Q := fun _ _ => False) rfl bad
end
end K07
namespace K07
open PySem PySem.Spec PyProof.Rows L2 Wd
/-- works in a list, apart from the drawing's state -/
structure WkS (S : Addr) (H : Hp) (L : Addr) (zs : List Wk) : Prop where
  at_ : H L = some (.lst (zs.map fun z => V.ref z.1))
  nS : L ≠ S
  own : ∀ z ∈ zs, H z.1 = some (.tup [.int z.2.1, .int z.2.2]) ∧ z.1 ≠ S
theorem WkS.frm {S : Addr} {H H' : Hp} {L : Addr} {zs : List Wk} (t : WkS S H L zs) (f : Frm S H H') : WkS S H' L zs :=
  ⟨f _ _ t.nS t.at_, t.nS, fun z hz => ⟨f _ _ (t.own z hz).2 (t.own z hz).1, (t.own z hz).2⟩⟩
theorem WkS.wk {S : Addr} {H : Hp} {L : Addr} {zs : List Wk} (t : WkS S H L zs) : WkL H L zs := ⟨t.at_, fun z hz => (t.own z hz).1⟩
theorem WkS.put {S : Addr} {H : Hp} {L t : Addr} {a b : Int} {zs : List Wk} (w : WkS S H L zs) (h : H t = some (.tup [.int a, .int b])) (n : t ≠ S) : WkS S (upd H L (.lst ((zs.map fun z => V.ref z.1) ++ [.ref t]))) L (zs ++ [(t, a, b)]) := by
  refine ⟨by rw [upd_same, List.map_append]; rfl, w.nS, fun z hz => ?_⟩
  rw [List.mem_append, List.mem_singleton] at hz
  rcases hz with hz | rfl
  · exact ⟨by rw [upd_ne (ne_of (w.own z hz).1 w.at_ (fun z => nomatch z))]; exact (w.own z hz).1, (w.own z hz).2⟩
  · exact ⟨by rw [upd_ne (ne_of h w.at_ (fun z => nomatch z))]; exact h, n⟩
def okS (B : Int) (zs : List Wk) : Prop := ∀ z ∈ zs, 0 ≤ z.2.1 ∧ z.2.1 ≤ z.2.2 ∧ z.2.2 ≤ B
theorem okS_put {B a b : Int} {t : Addr} {zs : List Wk} (h : okS B zs) (h1 : 0 ≤ a) (h2 : a ≤ b) (h3 : b ≤ B) : okS B (zs ++ [(t, a, b)]) := fun z hz => by
  rw [List.mem_append, List.mem_singleton] at hz
  rcases hz with hz | rfl
  · exact h z hz
  · exact ⟨h1, h2, h3⟩
section
variable {P : Program} {w : World} {K : PySem.W.Frag} {mg : Str → Option Value} {base : Heap} {CW CB : Addr}
abbrev s_law_far : Stmt := top 43
theorem sc_law_far : FnScope ["_law_state", "_law_most", "_law_far_here"] ["_law_state", "_law_most"] (C8.fnScope s_law_far) := C8.fnScope_by (by decide +kernel)
def sp_far (K : PySem.W.Frag) : Sp := fun vs H Q _ => ∃ (B : Hp) (S : Addr) (n : Int), vs = [.ref S, .int n] ∧ Dst K B H S ∧ ∀ H' v, Frm S H H' → Dst K B H' S → (v < 0 ∨ n < v) → Q (.int v) H'
theorem ok_far (T : TxtW K mg CW CB) {f : Addr} {fd : FuncData} (D : C8.Def K mg "_law_far" s_law_far f fd) (b : Binds K fd ["_law_state", "_law_most"] []) (g_law_drawn : C8.Cal P w K mg base 1 "_law_drawn" (sp_drawn K) []) : C8.Cal P w K mg base 2 "_law_far" (sp_far K) [] := by
  refine C8.cal0 D b .nil sc_law_far (fun vs H Q E h => ?_) fun cdv A outer s H vs Q E hr h => ?_
  · obtain ⟨B, S, n, rfl, _⟩ := h; rfl
  · obtain ⟨B, S, n, rfl, d, q⟩ := h
    have nd := sc_law_far.nd
    refine ⟨_, (pss_cons (ps_set (i := 2) nd rfl (Or.inl rfl) (pe_ix (r := rIxL K) ix_list (pe_lst (pa_cons pe_int (pa_cons pe_int (pa_cons (pe_op op_pow pe_int pe_int) pa_nil)))) (C8.pe_c g_law_drawn hr (by first | decide | exact Nat.le_refl _ | omega) (by rfl) (pa_cons (pv 0) (pa_cons pe_int pa_nil))) (fun _ _ => rfl)))
      (pss_one (ps_ret (pe_ix (r := rIxL K) ix_list (pe_lst (pa_cons (pe_op op_sub (pe_op op_sub pe_int pe_int) (C8.pe_c g_law_drawn hr (by first | decide | exact Nat.le_refl _ | omega) (by rfl) (pa_cons (pv 0) (pa_cons (pv 2) pa_nil)))) (pa_cons (pe_op op_add (pe_op op_add (pv 1) pe_int) (C8.pe_c g_law_drawn hr (by first | decide | exact Nat.le_refl _ | omega) (by rfl) (pa_cons (pv 0) (pa_cons (pv 2) pa_nil)))) pa_nil))) (C8.pe_c g_law_drawn hr (by first | decide | exact Nat.le_refl _ | omega) (by rfl) (pa_cons (pv 0) (pa_cons pe_int pa_nil))) (fun _ _ => rfl))))), ?_⟩
    walk_at "go"
    refine g_I (pow_small (by decide) (by decide) (by decide)) ?_
    walk_at "go"
    intro l hl
    have d1 := d.same (same_new (o := .lst [.int 1, .int 20, .int (10 ^ (29 : Int).toNat)]) hl)
    walk_at "go"
    refine use_drawn d1 (by decide) (by decide) fun H2 v f2 d2 v0 v1 => ?_
    have h2 := f2 _ _ (d.ne hl) upd_same
    obtain ⟨x, hx, hx2⟩ := atI_mem (xs := [.int 1, .int 20, .int (10 ^ (29 : Int).toNat)]) v0 v1
    refine g_ixL (SqL.of h2) hx2 ?_
    obtain ⟨z, rfl, z0, z1⟩ : ∃ z, x = V.int z ∧ 0 < z ∧ z < 10 ^ 38 := by
      simp only [List.mem_cons, List.not_mem_nil, or_false] at hx
      rcases hx with rfl | rfl | rfl
      · exact ⟨_, rfl, by decide, by decide⟩
      · exact ⟨_, rfl, by decide, by decide⟩
      · exact ⟨_, rfl, by decide, by decide⟩
    walk_at "go"
    refine use_drawn d2 z0 z1 fun H3 v3 f3 d3 v30 v31 => ?_
    walk_at "go"
    refine use_drawn d3 z0 z1 fun H4 v4 f4 d4 v40 v41 => ?_
    walk_at "go"
    intro l2 hl2
    have d5 := d4.same (same_new (o := .lst [.int (0 - 1 - v3), .int (n + 1 + v4)]) hl2)
    walk_at "go"
    refine use_drawn (n := 2) d5 (by decide) (by decide) fun H6 v6 f6 d6 v60 v61 => ?_
    have h6 := f6 _ _ (d4.ne hl2) upd_same
    have fr : Frm S H H6 := (((((Frm.new hl).trans f2).trans f3).trans f4).trans (.new hl2)).trans f6
    obtain ⟨y, hy, hy2⟩ := atI_mem (xs := [.int (0 - 1 - v3), .int (n + 1 + v4)]) v60 v61
    refine g_ixL (SqL.of h6) hy2 ?_
    simp only [List.mem_cons, List.not_mem_nil, or_false] at hy
    rcases hy with rfl | rfl
    · exact q _ _ fr d6 (.inl (by omega))
    · exact q _ _ fr d6 (.inr (by omega))

abbrev s_law_works : Stmt := top 44
theorem sc_law_works : FnScope ["_law_state", "_law_wide_here", "_law_found", "_law_k", "_law_least", "_law_times", "_law_most"] ["_law_state"] (C8.fnScope s_law_works) := C8.fnScope_by (by decide +kernel)
def sp_works (K : PySem.W.Frag) : Sp := fun vs H Q _ => ∃ (B : Hp) (S : Addr), vs = [.ref S] ∧ Dst K B H S ∧ ∀ H' L zs, Frm S H H' → Dst K B H' S → WkS S H' L zs → okZ zs → Q (.ref L) H'
theorem ok_works (T : TxtW K mg CW CB) {f : Addr} {fd : FuncData} (D : C8.Def K mg "_law_works" s_law_works f fd) (b : Binds K fd ["_law_state"] []) (g_law_drawn : C8.Cal P w K mg base 1 "_law_drawn" (sp_drawn K) []) : C8.Cal P w K mg base 2 "_law_works" (sp_works K) [] := by
  refine C8.cal0 D b .nil sc_law_works (fun vs H Q E h => ?_) fun cdv A outer s H vs Q E hr h => ?_
  · obtain ⟨B, S, rfl, _⟩ := h; rfl
  · obtain ⟨B, S, rfl, d, q⟩ := h
    have nd := sc_law_works.nd
    refine ⟨_, (pss_cons (ps_set (i := 1) nd rfl (Or.inl rfl) (pe_ix (r := rIxL K) ix_list (pe_lst (pa_cons pe_int (pa_cons pe_int (pa_cons pe_int pa_nil)))) (C8.pe_c g_law_drawn hr (by first | decide | exact Nat.le_refl _ | omega) (by rfl) (pa_cons (pv 0) (pa_cons pe_int pa_nil))) (fun _ _ => rfl)))
      (pss_cons (ps_set (i := 2) nd rfl (Or.inl rfl) (pe_lst pa_nil))
      (pss_cons (ps_for PassesOwn.never rfl (pi_range1 rfl T.n_range (pa_cons (pe_op op_add pe_int (C8.pe_c g_law_drawn hr (by first | decide | exact Nat.le_refl _ | omega) (by rfl) (pa_cons (pv 0) (pa_cons (pe_ix (r := rIxL K) ix_list (pe_lst (pa_cons pe_int (pa_cons pe_int pa_nil))) (C8.pe_c g_law_drawn hr (by first | decide | exact Nat.le_refl _ | omega) (by rfl) (pa_cons (pv 0) (pa_cons pe_int pa_nil))) (fun _ _ => rfl)) pa_nil)))) pa_nil)) (pg_name (i := 3) nd rfl (Or.inl rfl)) (pss_cons (ps_set (i := 4) nd rfl (Or.inl rfl) (C8.pe_c g_law_drawn hr (by first | decide | exact Nat.le_refl _ | omega) (by rfl) (pa_cons (pv 0) (pa_cons pe_int pa_nil))))
      (pss_one (ps_expr (pe_bmK (K := K) rfl PySem.F.plainAttrs_list PySem.F.slot_list_append PySem.F.type_list_append mt_append (pv 2) (pa_cons (pe_tup (pa_cons (pv 4) (pa_cons (pe_op op_add (pv 4) (C8.pe_c g_law_drawn hr (by first | decide | exact Nat.le_refl _ | omega) (by rfl) (pa_cons (pv 0) (pa_cons (pv 1) pa_nil)))) pa_nil))) pa_nil))))))
      (pss_cons (ps_set (i := 5) nd rfl (Or.inr rfl) (pe_ix (r := rIxL K) ix_list (pe_lst (pa_cons pe_int (pa_cons pe_int (pa_cons pe_int (pa_cons pe_int pa_nil))))) (C8.pe_c g_law_drawn hr (by first | decide | exact Nat.le_refl _ | omega) (by rfl) (pa_cons (pv 0) (pa_cons pe_int pa_nil))) (fun _ _ => rfl)))
      (pss_one (ps_ret (pe_lc (own := [("_law_least", 4), ("_law_most", 6)]) (g := (gTup K 2 (gCons (gName 4) (gCons (gName 6) gNil)))) (tt := tYes) rfl nd (pi_list (pv 2)) (blkOk_by (N := ["_law_state", "_law_wide_here", "_law_found", "_law_k", "_law_least", "_law_times", "_law_most"]) (sc := C8.fnScope s_law_works) (by decide +kernel)) (fun _ _ _ _ _ => (pg_tup rfl (pgs_cons (pg_name (i := 4) nd rfl (Or.inl rfl)) (pgs_cons (pg_name (i := 6) nd rfl (Or.inl rfl)) pgs_nil)))) (fun _ _ _ _ _ => pts_nil) (fun _ _ _ _ _ => (pe_tup (pa_cons (pe_op op_mulW (pv 4) (pv 5)) (pa_cons (pe_op op_mulW (pv 6) (pv 5)) pa_nil))))))))))), ?_⟩
    walk_at "go"
    intro l1 hl1
    have d1 := d.same (same_new (o := .lst [.int 1, .int 3, .int 6]) hl1)
    walk_at "go"
    refine use_drawn (n := 3) d1 (by decide) (by decide) fun H2 a f2 d2 a0 a1 => ?_
    have e2 := f2 _ _ (d.ne hl1) upd_same
    obtain ⟨x, hx, hx2⟩ := atI_mem (xs := [.int 1, .int 3, .int 6]) a0 a1
    refine g_ixL (SqL.of e2) hx2 ?_
    obtain ⟨wd, rfl, w0, w1⟩ : ∃ z, x = V.int z ∧ 1 ≤ z ∧ z ≤ 6 := by
      simp only [List.mem_cons, List.not_mem_nil, or_false] at hx
      rcases hx with rfl | rfl | rfl <;> exact ⟨_, rfl, by decide, by decide⟩
    have f02 : Frm S H H2 := (Frm.new (o := .lst [.int 1, .int 3, .int 6]) hl1).trans f2
    clear e2 hx2 hx f2 d1
    walk_at "go"
    intro F hF
    have d3 := d2.same (same_new (o := .lst []) hF)
    have nF := d2.ne hF
    have bF := d2.fresh hF
    have f23 : Frm S H2 (upd H2 F (.lst [])) := .new hF
    have eF := upd_same (H := H2) (a := F) (o := .lst [])
    generalize upd H2 F (.lst []) = H3 at d3 f23 eF
    walk_at "go"
    intro l4 hl4
    have d4 := d3.same (same_new (o := .lst [.int 5, .int 10]) hl4)
    walk_at "go"
    refine use_drawn (n := 2) d4 (by decide) (by decide) fun H5 c f5 d5 c0 c1 => ?_
    have e5 := f5 _ _ (d3.ne hl4) upd_same
    obtain ⟨x, hx, hx2⟩ := atI_mem (xs := [.int 5, .int 10]) c0 c1
    refine g_ixL (SqL.of e5) hx2 ?_
    obtain ⟨mx, rfl, x0, x1⟩ : ∃ z, x = V.int z ∧ 1 ≤ z ∧ z ≤ 10 := by
      simp only [List.mem_cons, List.not_mem_nil, or_false] at hx
      rcases hx with rfl | rfl <;> exact ⟨_, rfl, by decide, by decide⟩
    have f35 : Frm S H3 H5 := (Frm.new (o := .lst [.int 5, .int 10]) hl4).trans f5
    clear e5 hx2 hx f5 d4
    walk_at "go"
    refine use_drawn d5 (by omega) (by omega) fun H6 n f6 d6 n0 n1 => ?_
    have f26 := (f23.trans f35).trans f6
    have eF6 := f6 _ _ nF (f35 _ _ nF eF)
    walk_at "go"
    refine w_range (by omega) (by omega) (fun i σ H' => ∃ (v3 v4 v5 v6 : Option V) (zs : List Wk), σ = [some (.ref S), some (.int wd), some (.ref F), v3, v4, v5, v6] ∧ Frm S H2 H' ∧ Dst K B H' S ∧ WkS S H' F zs ∧ okS 10 zs ∧ zs.length = i) ?_ ?_ ?_
    · exact ⟨_, _, _, _, [], rfl, f26, d6, ⟨eF6, nF, fun z hz => nomatch hz⟩, (fun z hz => nomatch hz), rfl⟩
    · clear eF6 f26 f6 d6 f35 d5 d3 f23 eF
      rintro i σ H7 hi ⟨v3, v4, v5, v6, zs, rfl, f7, d7, wk, ok, lz⟩
      walk_at "go"
      refine use_drawn (n := 6) d7 (by decide) (by decide) fun H8 le f8 d8 le0 le1 => ?_
      walk_at "go"
      have wk8 := wk.frm f8
      refine g_tyL wk8.at_ ?_
      walk_at "go"
      refine use_drawn d8 (by omega) (by omega) fun H9 y f9 d9 y0 y1 => ?_
      walk_at "go"
      intro t ht
      have st := same_new (o := .tup [.int le, .int (le + y)]) ht
      have wk9 := (wk8.frm f9).frm (.of st)
      walk_at "go"
      refine g_append wk9.at_ (by rw [List.length_map]; omega) ?_
      walk_at "go"
      exact ⟨_, _, _, _, zs ++ [(t, le, le + y)], rfl, Frm.mut (((f7.trans f8).trans f9).trans (.of st)) hF, (d9.same st).mut nF bF, wk9.put upd_same (d9.ne ht), okS_put ok le0 (by omega) (by omega), by rw [List.length_append, lz]; rfl⟩
    · clear eF6 f26 f6 d6 f35 d5 d3 f23 eF
      rintro σ H7 ⟨v3, v4, v5, v6, zs, rfl, f7, d7, wk, ok, lz⟩
      walk_at "go"
      intro l8 hl8
      have d8 := d7.same (same_new (o := .lst [.int 1, .int 1, .int 1, .int 100]) hl8)
      walk_at "go"
      refine use_drawn (n := 4) d8 (by decide) (by decide) fun H9 u f9 d9 u0 u1 => ?_
      have e9 := f9 _ _ (d7.ne hl8) upd_same
      obtain ⟨x, hx, hx2⟩ := atI_mem (xs := [.int 1, .int 1, .int 1, .int 100]) u0 u1
      refine g_ixL (SqL.of e9) hx2 ?_
      obtain ⟨tm, rfl, t0, t1⟩ : ∃ z, x = V.int z ∧ 1 ≤ z ∧ z ≤ 100 := by
        simp only [List.mem_cons, List.not_mem_nil, or_false] at hx
        rcases hx with rfl | rfl | rfl | rfl <;> exact ⟨_, rfl, by decide, by decide⟩
      have f79 : Frm S H7 H9 := (Frm.new (o := .lst [.int 1, .int 1, .int 1, .int 100]) hl8).trans f9
      have wk9 := wk.frm f79
      walk_at "go"
      refine w_lcList (SqL.of wk9.at_) (fun D i H' => Same H9 H' ∧ ∃ ys, WkS S H' D ys ∧ okS 1000 ys ∧ ys.length = i) (fun D hD => ⟨same_new hD, [], ⟨upd_same, d9.ne hD, fun z hz => nomatch hz⟩, (fun z hz => nomatch hz), rfl⟩) (fun D i H' hD _ h => SqL.of (h.1 _ _ wk9.at_)) (fun D i y H' hD hy h => ?_) (fun D H' hD h => ?_)
      · obtain ⟨z, hz, rfl⟩ := zs_at hy
        obtain ⟨s10, ys, wy, oy, ly⟩ := h
        have zm := List.mem_of_getElem? hz
        have il := (List.getElem?_eq_some_iff.mp hz).1
        obtain ⟨z0, z1, z2⟩ := ok z zm
        have m1 : 0 ≤ z.2.1 * tm := Int.mul_nonneg z0 (by omega)
        have m2 : z.2.1 * tm ≤ z.2.2 * tm := Int.mul_le_mul_of_nonneg_right z1 (by omega)
        have m3 : z.2.2 * tm ≤ 10 * tm := Int.mul_le_mul_of_nonneg_right z2 (by omega)
        walk_at "go"
        refine g_gtup (SqT.of (s10 _ _ (wk9.own z zm).1)) rfl ?_
        walk_at "go"
        refine ⟨rfl, ?_⟩
        walk_at "go"
        refine g_I (mulW_small (by omega) (by omega) (by omega) (by omega)) ?_
        walk_at "go"
        refine g_I (mulW_small (by omega) (by omega) (by omega) (by omega)) ?_
        walk_at "go"
        intro t ht
        have st := same_new (o := .tup [.int (z.2.1 * tm), .int (z.2.2 * tm)]) ht
        have wy2 := wy.frm (.of st)
        exact ⟨_, wy2.at_, by rw [sizeLine_eq, List.length_map]; omega, Wd.Same.mut (s10.trans st) hD, _, wy2.put upd_same ((d9.same s10).ne ht), okS_put oy m1 m2 (by omega), by rw [List.length_append, ly]; rfl⟩
      · obtain ⟨s10, ys, wy, oy, ly⟩ := h
        rw [List.length_map] at ly
        exact q H' D ys ((f02.trans f7).trans (f79.trans (.of s10))) (d9.same s10) wy ⟨by omega, by omega, oy⟩

end
end K07
namespace K07
open PySem PySem.Spec PyProof.Rows L2 Wd
theorem cut_from {α : Type} (l : List α) (f : α → V) {a : Nat} (ha : a ≤ l.length) : cutV (l.map f) (some (a : Int)) none = (l.drop a).map f := by
  unfold cutV
  rw [HT.sIx_nat, HT.sIx_none, List.length_map, Nat.min_eq_left ha, ← List.map_drop, List.take_of_length_le (by rw [List.length_map, List.length_drop]; exact Nat.le_refl _)]
theorem cut_to {α : Type} (l : List α) (f : α → V) {b : Nat} (hb : b ≤ l.length) : cutV (l.map f) none (some (b : Int)) = (l.take b).map f := by
  unfold cutV
  rw [HT.sIx_nat, HT.sIx_none, List.length_map, Nat.min_eq_left hb, List.drop_zero, Nat.sub_zero, List.map_take]
theorem cut_any {α : Type} (l : List α) (f : α → V) (b : Nat) : cutV (l.map f) none (some (b : Int)) = (l.take b).map f := by
  unfold cutV
  rw [HT.sIx_nat, HT.sIx_none, List.length_map, List.drop_zero, Nat.sub_zero, List.map_take]
  by_cases h : b ≤ l.length
  · rw [Nat.min_eq_left h]
  · rw [Nat.min_eq_right (by omega), List.take_of_length_le (by rw [List.length_map]; omega), List.take_of_length_le (by rw [List.length_map]; omega)]
structure Bd (K : PySem.W.Frag) (B H0 : Hp) (S L : Addr) (zs : List Wk) (H : Hp) (Lv : List (Addr × HO)) : Prop where
  d : Dst K B H S
  lv : Live S H Lv
  wk : WkS S H L zs
  f : Frm S H0 H
theorem Bd.new {K : PySem.W.Frag} {B H0 H : Hp} {S L p : Addr} {zs : List Wk} {Lv : List (Addr × HO)} {o : HO} (b : Bd K B H0 S L zs H Lv) (hp : H p = none) : Bd K B H0 S L zs (upd H p o) ((p, o) :: Lv) :=
  ⟨b.d.same (same_new hp), b.lv.new hp b.d.has, b.wk.frm (.new hp), b.f.trans (.new hp)⟩
theorem flat_map (f : Wk → V) (zs : List Wk) : ∀ k : Nat, (List.replicate k (zs.map f)).flatten = ((List.replicate k zs).flatten).map f
  | 0 => rfl
  | k + 1 => by rw [List.replicate_succ, List.flatten_cons, flat_map f zs k, List.replicate_succ, List.flatten_cons, List.map_append]
theorem flat_len (zs : List Wk) : ∀ k : Nat, ((List.replicate k zs).flatten).length = k * zs.length
  | 0 => by rw [Nat.zero_mul]; rfl
  | k + 1 => by rw [List.replicate_succ, List.flatten_cons, List.length_append, flat_len zs k, Nat.succ_mul]; omega
theorem flat_mem {zs : List Wk} {z : Wk} : ∀ {k : Nat}, z ∈ (List.replicate k zs).flatten → z ∈ zs
  | 0, h => nomatch h
  | k + 1, h => by
    rw [List.replicate_succ, List.flatten_cons, List.mem_append] at h
    rcases h with h | h
    · exact h
    · exact flat_mem h
section
variable {P : Program} {w : World} {K : PySem.W.Frag} {mg : Str → Option Value} {base : Heap} {CW CB : Addr}
abbrev s_law_odd : Stmt := top 46
theorem sc_law_odd : FnScope ["_law_state", "_law_works_here", "_law_at", "_law_bad"] ["_law_state", "_law_works_here"] (C8.fnScope s_law_odd) := C8.fnScope_by (by decide +kernel)
def sp_odd (K : PySem.W.Frag) : Sp := fun vs H Q _ => ∃ (B : Hp) (S L : Addr) (zs : List Wk), vs = [.ref S, .ref L] ∧ Dst K B H S ∧ WkS S H L zs ∧ okZ zs ∧ ∀ H' O ys, Frm S H H' → Dst K B H' S → WkS S H' O ys → ¬ okZ ys → Q (.ref O) H'
theorem ok_odd (T : TxtW K mg CW CB) {f : Addr} {fd : FuncData} (D : C8.Def K mg "_law_odd" s_law_odd f fd) (b : Binds K fd ["_law_state", "_law_works_here"] []) (g_law_drawn : C8.Cal P w K mg base 1 "_law_drawn" (sp_drawn K) []) (g_law_far : C8.Cal P w K mg base 2 "_law_far" (sp_far K) []) : C8.Cal P w K mg base 3 "_law_odd" (sp_odd K) [] := by
  refine C8.cal0 D b .nil sc_law_odd (fun vs H Q E h => ?_) fun cdv A outer s H vs Q E hr h => ?_
  · obtain ⟨B, S, L, zs, rfl, _⟩ := h; rfl
  · obtain ⟨B, S, L, zs, rfl, d, wk, okz, q⟩ := h
    have nd := sc_law_odd.nd
    refine ⟨_, (pss_cons (ps_set (i := 2) nd rfl (Or.inl rfl) (C8.pe_c g_law_drawn hr (by first | decide | exact Nat.le_refl _ | omega) (by rfl) (pa_cons (pv 0) (pa_cons (pe_callB (r := Wd.rLen K) call_len1 (by rfl) T.n_len PySem.boot_len (pa_cons (pv 1) pa_nil)) pa_nil))))
      (pss_cons (ps_set (i := 3) nd rfl (Or.inl rfl) (pe_ix (r := rIxL K) ix_list (pe_lst (pa_cons (pe_tup (pa_cons (pe_op op_sub pe_int pe_int) (pa_cons pe_int pa_nil))) (pa_cons (pe_tup (pa_cons pe_int (pa_cons pe_int pa_nil))) (pa_cons (pe_tup (pa_cons pe_int (pa_cons pe_int pa_nil))) (pa_cons (pe_tup (pa_cons (C8.pe_c g_law_far hr (by first | decide | exact Nat.le_refl _ | omega) (by rfl) (pa_cons (pv 0) (pa_cons pe_int pa_nil))) (pa_cons pe_int pa_nil))) pa_nil))))) (C8.pe_c g_law_drawn hr (by first | decide | exact Nat.le_refl _ | omega) (by rfl) (pa_cons (pv 0) (pa_cons pe_int pa_nil))) (fun _ _ => rfl)))
      (pss_one (ps_ret (pe_ix (r := rIxL K) ix_list (pe_lst (pa_cons (pe_lst pa_nil) (pa_cons (pe_slice (r := rSlL K) sl_list (pe_op op_rep (pv 1) pe_int) po_none (po_some pe_int)) (pa_cons (pe_op op_cat (pe_op op_cat (pe_slice (r := rSlL K) sl_list (pv 1) po_none (po_some (pv 2))) (pe_lst (pa_cons (pv 3) pa_nil))) (pe_slice (r := rSlL K) sl_list (pv 1) (po_some (pe_op op_add (pv 2) pe_int)) po_none)) pa_nil)))) (C8.pe_c g_law_drawn hr (by first | decide | exact Nat.le_refl _ | omega) (by rfl) (pa_cons (pv 0) (pa_cons pe_int pa_nil))) (fun _ _ => rfl)))))), ?_⟩
    walk_at "go"
    refine g_len (.inl (SqL.of wk.at_)) ?_
    rw [List.length_map]
    walk_at "go"
    have zl := okz.2.1
    have zp := okz.1
    refine use_drawn d (by omega) (by omega) fun H1 at_ f1 d1 at0 at1 => ?_
    have wk1 := wk.frm f1
    walk_at "go"
    intro t1 ht1
    have d2 := d1.same (same_new (o := .tup [.int (0 - 1), .int 2]) ht1)
    have L2 := Live.new (o := .tup [.int (0 - 1), .int 2]) (L := []) Live.nil ht1 d1.has
    walk_at "go"
    intro t2 ht2
    have d3 := d2.same (same_new (o := .tup [.int 2, .int 1]) ht2)
    have L3 := L2.new (o := .tup [.int 2, .int 1]) ht2 d2.has
    walk_at "go"
    intro t3 ht3
    have d4 := d3.same (same_new (o := .tup [.int 0, .int 1001]) ht3)
    have L4 := L3.new (o := .tup [.int 0, .int 1001]) ht3 d3.has
    have f14 : Frm S H1 _ := ((Frm.new (o := .tup [.int (0 - 1), .int 2]) ht1).trans (.new (o := .tup [.int 2, .int 1]) ht2)).trans (.new (o := .tup [.int 0, .int 1001]) ht3)
    walk_at "go"
    refine ⟨_, S, 1000, rfl, d4, fun H5 fa f5 d5 fb => ?_⟩
    have L5 := L4.frm f5
    walk_at "go"
    intro t4 ht4
    have d6 := d5.same (same_new (o := .tup [.int fa, .int 1001]) ht4)
    have L6 := L5.new (o := .tup [.int fa, .int 1001]) ht4 d5.has
    walk_at "go"
    intro l7 hl7
    have d7 := d6.same (same_new (o := .lst [.ref t1, .ref t2, .ref t3, .ref t4]) hl7)
    have L7 := L6.new (o := .lst [.ref t1, .ref t2, .ref t3, .ref t4]) hl7 d6.has
    have f17 := ((f14.trans f5).trans (.new (o := .tup [.int fa, .int 1001]) ht4)).trans (.new (o := .lst [.ref t1, .ref t2, .ref t3, .ref t4]) hl7)
    walk_at "go"
    refine use_drawn (n := 4) d7 (by decide) (by decide) fun H8 c f8 d8 c0 c1 => ?_
    have L8 := L7.frm f8
    obtain ⟨x, hx, hx2⟩ := atI_mem (xs := [.ref t1, .ref t2, .ref t3, .ref t4]) c0 c1
    refine g_ixL (SqL.of (L8.get 0 rfl)) hx2 ?_
    have wk8 := wk1.frm (f17.trans f8)
    obtain ⟨bt, a1, a2, rfl, eb, nb, bad⟩ : ∃ (bt : Addr) (a1 a2 : Int), x = V.ref bt ∧ H8 bt = some (.tup [.int a1, .int a2]) ∧ bt ≠ S ∧ ¬ (0 ≤ a1 ∧ a1 ≤ a2 ∧ a2 ≤ 1000) := by
      simp only [List.mem_cons, List.not_mem_nil, or_false] at hx
      rcases hx with rfl | rfl | rfl | rfl
      · exact ⟨_, _, _, rfl, L8.get 4 rfl, L8.ne 4 rfl, by omega⟩
      · exact ⟨_, _, _, rfl, L8.get 3 rfl, L8.ne 3 rfl, by omega⟩
      · exact ⟨_, _, _, rfl, L8.get 2 rfl, L8.ne 2 rfl, by omega⟩
      · exact ⟨_, _, _, rfl, L8.get 1 rfl, L8.ne 1 rfl, by omega⟩
    have f08 := f1.trans (f17.trans f8)
    clear f17 f14 f5 f8 L2 L3 L4 L5 L6 L7 L8 hx hx2 d1 d2 d3 d4 d5 d6 d7 wk1 wk
    obtain ⟨at', rfl⟩ : ∃ n : Nat, at_ = (n : Int) := ⟨at_.toNat, by omega⟩
    have b8 : Bd K B H S L zs H8 [(bt, .tup [.int a1, .int a2])] := ⟨d8, Live.cons Live.nil nb eb, wk8, f08⟩
    clear d8 wk8 eb f08
    walk_at "go"
    intro l0 hl0
    have b9 := b8.new (o := .lst []) hl0
    generalize upd H8 l0 (.lst []) = H9 at b9
    walk_at "go"
    refine ⟨L, 11, _, rfl, rfl, b9.wk.at_, by decide, by decide, by rw [sizeLine_eq, List.length_map]; show zs.length * 11 ≤ _; omega, fun r1 hr1 => ?_⟩
    rw [show (11 : Int).toNat = 11 from rfl, flat_map]
    have b10 := b9.new (o := .lst (((List.replicate 11 zs).flatten).map fun z => V.ref z.1)) hr1
    generalize upd H9 r1 (.lst (((List.replicate 11 zs).flatten).map fun z => V.ref z.1)) = H10 at b10
    walk_at "go"
    refine g_slL (SqL.of (b10.lv.get 0 rfl)) fun l1 hl1 => ?_
    rw [show (11 : Int) = ((11 : Nat) : Int) from rfl, cut_any]
    have b11 := b10.new (o := .lst ((((List.replicate 11 zs).flatten).take 11).map fun z => V.ref z.1)) hl1
    generalize upd H10 l1 (.lst ((((List.replicate 11 zs).flatten).take 11).map fun z => V.ref z.1)) = H11 at b11
    walk_at "go"
    refine g_slL (SqL.of b11.wk.at_) fun l2 hl2 => ?_
    rw [cut_any]
    have b12 := b11.new (o := .lst ((zs.take at').map fun z => V.ref z.1)) hl2
    generalize upd H11 l2 (.lst ((zs.take at').map fun z => V.ref z.1)) = H12 at b12
    walk_at "go"
    intro l3 hl3
    have b13 := b12.new (o := .lst [.ref bt]) hl3
    generalize upd H12 l3 (.lst [.ref bt]) = H13 at b13
    walk_at "go"
    refine ⟨l2, l3, _, _, rfl, rfl, b13.lv.get 1 rfl, b13.lv.get 0 rfl, by rw [sizeLine_eq, List.length_map, List.length_take, List.length_singleton]; omega, fun l4 hl4 => ?_⟩
    have b14 := b13.new (o := .lst (((zs.take at').map fun z => V.ref z.1) ++ [.ref bt])) hl4
    generalize upd H13 l4 (.lst (((zs.take at').map fun z => V.ref z.1) ++ [.ref bt])) = H14 at b14
    walk_at "go"
    refine g_slL (SqL.of b14.wk.at_) fun l5 hl5 => ?_
    rw [show (at' : Int) + 1 = ((at' + 1 : Nat) : Int) by omega, cut_from zs _ (by omega)]
    have b15 := b14.new (o := .lst ((zs.drop (at' + 1)).map fun z => V.ref z.1)) hl5
    generalize upd H14 l5 (.lst ((zs.drop (at' + 1)).map fun z => V.ref z.1)) = H15 at b15
    walk_at "go"
    refine ⟨l4, l5, _, _, rfl, rfl, b15.lv.get 1 rfl, b15.lv.get 0 rfl, by rw [sizeLine_eq, List.length_append, List.length_map, List.length_map, List.length_take, List.length_drop, List.length_singleton]; omega, fun l6 hl6 => ?_⟩
    have ey : ((zs.take at').map fun z => V.ref z.1) ++ [V.ref bt] ++ ((zs.drop (at' + 1)).map fun z => V.ref z.1) = ((zs.take at' ++ [((bt, a1, a2) : Wk)] ++ zs.drop (at' + 1)).map fun z => V.ref z.1) := by rw [List.map_append, List.map_append]; rfl
    rw [ey]
    have b16 := b15.new (o := .lst ((zs.take at' ++ [((bt, a1, a2) : Wk)] ++ zs.drop (at' + 1)).map fun z => V.ref z.1)) hl6
    generalize upd H15 l6 (.lst ((zs.take at' ++ [((bt, a1, a2) : Wk)] ++ zs.drop (at' + 1)).map fun z => V.ref z.1)) = H16 at b16
    walk_at "go"
    intro l7' hl7'
    have b17 := b16.new (o := .lst [.ref l0, .ref l1, .ref l6]) hl7'
    generalize upd H16 l7' (.lst [.ref l0, .ref l1, .ref l6]) = H17 at b17
    walk_at "go"
    refine use_drawn (n := 3) b17.d (by decide) (by decide) fun H18 y f18 d18 y0 y1 => ?_
    have L18 := b17.lv.frm f18
    have wk18 := b17.wk.frm f18
    have fz := b17.f.trans f18
    obtain ⟨x, hx, hx2⟩ := atI_mem (xs := [.ref l0, .ref l1, .ref l6]) y0 y1
    refine g_ixL (SqL.of (L18.get 0 rfl)) hx2 ?_
    simp only [List.mem_cons, List.not_mem_nil, or_false] at hx
    rcases hx with rfl | rfl | rfl
    · refine q _ l0 [] fz d18 ⟨L18.get 8 rfl, L18.ne 8 rfl, fun z hz => nomatch hz⟩ fun z => ?_
      have := z.1
      simp at this
    · refine q _ l1 _ fz d18 ⟨L18.get 6 rfl, L18.ne 6 rfl, fun z hz => wk18.own z (flat_mem (List.mem_of_mem_take hz))⟩ fun z => ?_
      have := z.2.1
      rw [List.length_take, flat_len] at this
      omega
    · refine q _ l6 _ fz d18 ⟨L18.get 1 rfl, L18.ne 1 rfl, fun z hz => ?_⟩ fun z => bad (z.2.2 (bt, a1, a2) (by simp))
      rw [List.mem_append, List.mem_append, List.mem_singleton] at hz
      rcases hz with (hz | rfl) | hz
      · exact wk18.own z (List.mem_of_mem_take hz)
      · exact ⟨L18.get 9 rfl, nb⟩
      · exact wk18.own z (List.mem_of_mem_drop hz)
end
end K07
namespace K07
open PySem PySem.Spec PyProof.Rows L2 Wd
section
variable {P : Program} {w : World} {K : PySem.W.Frag} {mg : Str → Option Value} {base : Heap} {CW : Addr}
/-- the classes of the refusals, at their places -/
structure Refs (K : PySem.W.Frag) (mg : Str → Option Value) (CD : Addr) (cs : List Addr) : Prop where
  n_isinstance : mg "isinstance" = none
  n_ValueError : mg "ValueError" = none
  g_DogError : mg "DogError" = some (.ref CD)
  g_BadWindow : ∃ C, cs[0]? = some C ∧ mg "BadWindow" = some (.ref C)
  g_BadPlan : ∃ C, cs[1]? = some C ∧ mg "BadPlan" = some (.ref C)
  g_BadDelays : ∃ C, cs[2]? = some C ∧ mg "BadDelays" = some (.ref C)
  g_BadWorks : ∃ C, cs[3]? = some C ∧ mg "BadWorks" = some (.ref C)
  g_NoPats : ∃ C, cs[4]? = some C ∧ mg "NoPats" = some (.ref C)
  g_NoPlace : ∃ C, cs[5]? = some C ∧ mg "NoPlace" = some (.ref C)
  g_BadTasks : ∃ C, cs[6]? = some C ∧ mg "BadTasks" = some (.ref C)
  g_BadBeat : ∃ C, cs[7]? = some C ∧ mg "BadBeat" = some (.ref C)
  g_TooMuch : ∃ C, cs[8]? = some C ∧ mg "TooMuch" = some (.ref C)
/-- a refusal without a dict of its own, of the i-th class: an error of DogError's, a ValueError, and of none of the others -/
structure IsRef (K : PySem.W.Frag) (CD : Addr) (cs : List Addr) (i : Nat) (C : Addr) : Prop where
  cls : cs[i]? = some C
  exc : ExcC K C
  dog : PySem.W.exmOne K (.ref C) (.ref CD) = some true
  val : PySem.W.kitOne K (.ref C) (.type "ValueError") = some true
  own : ∀ (j : Nat) (C' : Addr), cs[j]? = some C' → PySem.W.kitOne K (.ref C) (.ref C') = some (decide (i = j))
def kindW : List Str := ["BadWindow", "BadPlan", "BadDelays", "BadWorks", "NoPats", "NoPlace", "BadTasks", "BadBeat", "TooMuch"]
/-- what is wished of an exception: a refusal, whose word is told -/
def EKind (K : PySem.W.Frag) (CD : Addr) (cs : List Addr) (Q : VK) : XK := fun cls d H => ∃ (i : Nat) (C : Addr) (x : Str), cls = .ref C ∧ d = none ∧ IsRef K CD cs i C ∧ kindW[i]? = some x ∧ ∀ H', Same H H' → Q (.str x) H'
def TKind (K : PySem.W.Frag) (CD : Addr) (cs : List Addr) : (XK → Hp → VK → Prop) → Hp → VK → Prop := fun tl H Q => tl (EKind K CD cs Q) H Q
abbrev s_law_kind : Stmt := top 42
theorem sc_law_kind : FnScope ["_law_work", "e", "_law_kinds", "_law_words"] ["_law_work"] (C8.fnScope s_law_kind) := C8.fnScope_by (by decide +kernel)
theorem kind_gives {X : Cx} {g CD : Addr} {cs : List Addr} {cdg : Value} {q : Str} (T : Refs X.K X.mg CD cs) :
    LamX.GivesTo X ["_law_work", "e", "_law_kinds", "_law_words"] "_law_kind" (C8.fnScope s_law_kind) g cdg (C8.fnBody s_law_kind) "_law_work" q (TKind X.K CD cs) := by
  intro f c' s H Q tl act hc h
  have nd := sc_law_kind.nd
  obtain ⟨C0, e0, m0⟩ := T.g_BadWindow
  obtain ⟨C1, e1, m1⟩ := T.g_BadPlan
  obtain ⟨C2, e2, m2⟩ := T.g_BadDelays
  obtain ⟨C3, e3, m3⟩ := T.g_BadWorks
  obtain ⟨C4, e4, m4⟩ := T.g_NoPats
  obtain ⟨C5, e5, m5⟩ := T.g_NoPlace
  obtain ⟨C6, e6, m6⟩ := T.g_BadTasks
  obtain ⟨C7, e7, m7⟩ := T.g_BadBeat
  obtain ⟨C8', e8, m8⟩ := T.g_TooMuch
  refine ⟨_, pss_one (ps_try_as (X := (cxOf C8.CX0 X.prog X.w X.K X.mg X.base ["_law_work", "e", "_law_kinds", "_law_words"] "_law_kind" (C8.fnScope s_law_kind) g cdg X.A X.stack s H C8.E0).nox) (c := .ref CD) (i := 1)
      (tb := fun W D σ H => ∃ Ech : XK, (∀ cls d σ' H', Ech cls d H' → σ'.length = 4 → W cls d σ' H') ∧ σ[0]? = some (some (.ref f)) ∧ H c' = some (LamX.CodeO c' q) ∧ tl Ech H D.rt) (Wout := fun _ _ _ _ => False)
      rfl rfl nd rfl rfl ⟨rfl, by decide, .inl T.g_DogError⟩ LamX.takes0 (fun W pn xe tk _ => ?_) (fun a oe cls d pn hz hf => (pss_cons (ps_set (i := 2) nd rfl (Or.inl rfl) (pe_lst (pa_cons (pe_callB (r := rIsE2 X.K cls d a) (call_isE2 hz hf) (by rfl) T.n_isinstance (by decide +kernel) (pa_cons (pv 1) (pa_cons (pe_glob (v := .ref C0) rfl m0 rfl) pa_nil))) (pa_cons (pe_callB (r := rIsE2 X.K cls d a) (call_isE2 hz hf) (by rfl) T.n_isinstance (by decide +kernel) (pa_cons (pv 1) (pa_cons (pe_glob (v := .ref C1) rfl m1 rfl) pa_nil))) (pa_cons (pe_callB (r := rIsE2 X.K cls d a) (call_isE2 hz hf) (by rfl) T.n_isinstance (by decide +kernel) (pa_cons (pv 1) (pa_cons (pe_glob (v := .ref C2) rfl m2 rfl) pa_nil))) (pa_cons (pe_callB (r := rIsE2 X.K cls d a) (call_isE2 hz hf) (by rfl) T.n_isinstance (by decide +kernel) (pa_cons (pv 1) (pa_cons (pe_glob (v := .ref C3) rfl m3 rfl) pa_nil))) pa_nil))))))
      (pss_cons (ps_set (i := 2) nd rfl (Or.inl rfl) (pe_op op_cat (pv 2) (pe_lst (pa_cons (pe_callB (r := rIsE2 X.K cls d a) (call_isE2 hz hf) (by rfl) T.n_isinstance (by decide +kernel) (pa_cons (pv 1) (pa_cons (pe_glob (v := .ref C4) rfl m4 rfl) pa_nil))) (pa_cons (pe_callB (r := rIsE2 X.K cls d a) (call_isE2 hz hf) (by rfl) T.n_isinstance (by decide +kernel) (pa_cons (pv 1) (pa_cons (pe_glob (v := .ref C5) rfl m5 rfl) pa_nil))) (pa_cons (pe_callB (r := rIsE2 X.K cls d a) (call_isE2 hz hf) (by rfl) T.n_isinstance (by decide +kernel) (pa_cons (pv 1) (pa_cons (pe_glob (v := .ref C6) rfl m6 rfl) pa_nil))) (pa_cons (pe_callB (r := rIsE2 X.K cls d a) (call_isE2 hz hf) (by rfl) T.n_isinstance (by decide +kernel) (pa_cons (pv 1) (pa_cons (pe_glob (v := .ref C7) rfl m7 rfl) pa_nil))) pa_nil)))))))
      (pss_cons (ps_expr (pe_bmK (K := X.K) rfl PySem.F.plainAttrs_list PySem.F.slot_list_append PySem.F.type_list_append mt_append (pv 2) (pa_cons (pe_callB (r := rIsE2 X.K cls d a) (call_isE2 hz hf) (by rfl) T.n_isinstance (by decide +kernel) (pa_cons (pv 1) (pa_cons (pe_glob (v := .ref C8') rfl m8 rfl) pa_nil))) pa_nil)))
      (pss_cons (ps_set (i := 3) nd rfl (Or.inl rfl) (pe_lst (pa_cons pe_str (pa_cons pe_str (pa_cons pe_str (pa_cons pe_str (pa_cons pe_str (pa_cons pe_str (pa_cons pe_str (pa_cons pe_str (pa_cons pe_str pa_nil)))))))))))
      (pss_cons (ps_if (PW.pt (pw_or (pt_cmpR op_ne (pe_bmK (K := X.K) rfl PySem.F.plainAttrs_list PySem.F.slot_list_count PySem.F.type_list_count (r := rCntV X.K) mt_lcountV (pv 2) (pa_cons pe_bl pa_nil)) pe_int (nomark _)) (pw_or1 (pt_not (pt_val (pe_callB (r := rIsE2 X.K cls d a) (call_isE2 hz hf) (by rfl) T.n_isinstance (by decide +kernel) (pa_cons (pv 1) (pa_cons (pe_bltn (v := .ty "ValueError") (by rfl) T.n_ValueError (by decide +kernel) rfl) pa_nil)))))))) (pss_one (ps_ret pe_str)) pss_nil)
      (pss_one (ps_ret (pe_ix (r := rIxL X.K) ix_list (pv 3) (pe_bmK (K := X.K) rfl PySem.F.plainAttrs_list PySem.F.slot_list_index PySem.F.type_list_index (r := rIndex X.K) mt_index (pv 2) (pa_cons pe_bl pa_nil)) (fun _ _ => rfl))))))))))), ?_⟩
  · refine ⟨fun pins s' σ H' D I h' => ?_⟩
    obtain ⟨Ech, hW, h1, h2, h3⟩ := h'
    exact (pss_one (ps_ret (act _ pn xe Ech _ _ (takes_len tk) hW))).run pins s' σ H' D I ⟨h1, h2, h3⟩
  · refine ⟨EKind X.K CD cs Q, fun cls d σ' H' hE hlen => ?_, rfl, hc, h⟩
    obtain ⟨i, C, x, rfl, rfl, R, hx, k⟩ := hE
    obtain ⟨v0, v1, v2, v3, rfl⟩ : ∃ v0 v1 v2 v3, σ' = [v0, v1, v2, v3] := by
      match σ', hlen with
      | [v0, v1, v2, v3], _ => exact ⟨v0, v1, v2, v3, rfl⟩
    refine ⟨true, R.dog, fun _ a ha => ?_, fun q => nomatch q⟩
    show tSeq _ _ _ _ _
    have isC : ∀ (j : Nat) (C' : Addr) (H : Hp) (Q : VK), cs[j]? = some C' → Q (.bl (decide (i = j))) H → rIsE2 X.K (.ref C) none a [.ref a, .ref C'] H Q := fun j C' H Q e q => ⟨C, .ref C', .ref C', _, rfl, rfl, R.exc, rfl, fun u r => r, R.own j C' e, q⟩
    walk_at "go"
    refine isC 0 _ _ _ e0 ?_
    walk_at "go"
    refine isC 1 _ _ _ e1 ?_
    walk_at "go"
    refine isC 2 _ _ _ e2 ?_
    walk_at "go"
    refine isC 3 _ _ _ e3 ?_
    walk_at "go"
    intro l1 hl1
    walk_at "go"
    refine isC 4 _ _ _ e4 ?_
    walk_at "go"
    refine isC 5 _ _ _ e5 ?_
    walk_at "go"
    refine isC 6 _ _ _ e6 ?_
    walk_at "go"
    refine isC 7 _ _ _ e7 ?_
    walk_at "go"
    intro l2 hl2
    have n12 : l1 ≠ l2 := fun e => by rw [← e, upd_same] at hl2; cases hl2
    walk_at "go"
    refine ⟨l1, l2, _, _, rfl, rfl, by rw [upd_ne n12, upd_same], upd_same, (by show 8 ≤ sizeLine; decide), fun l3 hl3 => ?_⟩
    walk_at "go"
    refine g_tyL upd_same ?_
    walk_at "go"
    refine isC 8 _ _ _ e8 ?_
    walk_at "go"
    refine g_append upd_same (by show 8 < 100000; decide) ?_
    walk_at "go"
    intro l4 hl4
    have n34 : l3 ≠ l4 := fun e => by rw [← e, upd_same] at hl4; cases hl4
    have S5 := ((((same_new (o := .lst [V.bl (decide (i = 0)), V.bl (decide (i = 1)), V.bl (decide (i = 2)), V.bl (decide (i = 3))]) hl1).trans (same_new (o := .lst [V.bl (decide (i = 4)), V.bl (decide (i = 5)), V.bl (decide (i = 6)), V.bl (decide (i = 7))]) hl2)).trans
      (Same.mut (same_new (o := .lst ([V.bl (decide (i = 0)), V.bl (decide (i = 1)), V.bl (decide (i = 2)), V.bl (decide (i = 3))] ++ [V.bl (decide (i = 4)), V.bl (decide (i = 5)), V.bl (decide (i = 6)), V.bl (decide (i = 7))])) hl3)
        (o := .lst ([V.bl (decide (i = 0)), V.bl (decide (i = 1)), V.bl (decide (i = 2)), V.bl (decide (i = 3))] ++ [V.bl (decide (i = 4)), V.bl (decide (i = 5)), V.bl (decide (i = 6)), V.bl (decide (i = 7))] ++ [V.bl (decide (i = 8))])) hl3)).trans (same_new (o := .lst (kindW.map V.str)) hl4))
    have S6 := same_new (o := .lst (kindW.map V.str)) hl4
    have a3 := S6 l3 _ upd_same
    have a4 : upd _ l4 (.lst (kindW.map V.str)) l4 = some (.lst (kindW.map V.str)) := upd_same (H := upd (upd (upd (upd H' l1 (.lst [V.bl (decide (i = 0)), V.bl (decide (i = 1)), V.bl (decide (i = 2)), V.bl (decide (i = 3))])) l2 (.lst [V.bl (decide (i = 4)), V.bl (decide (i = 5)), V.bl (decide (i = 6)), V.bl (decide (i = 7))])) l3
      (.lst ([V.bl (decide (i = 0)), V.bl (decide (i = 1)), V.bl (decide (i = 2)), V.bl (decide (i = 3))] ++ [V.bl (decide (i = 4)), V.bl (decide (i = 5)), V.bl (decide (i = 6)), V.bl (decide (i = 7))]))) l3
        (.lst ([V.bl (decide (i = 0)), V.bl (decide (i = 1)), V.bl (decide (i = 2)), V.bl (decide (i = 3))] ++ [V.bl (decide (i = 4)), V.bl (decide (i = 5)), V.bl (decide (i = 6)), V.bl (decide (i = 7))] ++ [V.bl (decide (i = 8))])))
    have hi : i < 9 := (List.getElem?_eq_some_iff.mp hx).1
    have c9 : i = 0 ∨ i = 1 ∨ i = 2 ∨ i = 3 ∨ i = 4 ∨ i = 5 ∨ i = 6 ∨ i = 7 ∨ i = 8 := by omega
    -- of the nine answers one is True, at i
    have fA : ([V.bl (decide (i = 0)), V.bl (decide (i = 1)), V.bl (decide (i = 2)), V.bl (decide (i = 3))] ++ [V.bl (decide (i = 4)), V.bl (decide (i = 5)), V.bl (decide (i = 6)), V.bl (decide (i = 7))] ++ [V.bl (decide (i = 8))]).all flatV = true := rfl
    have nA : ([V.bl (decide (i = 0)), V.bl (decide (i = 1)), V.bl (decide (i = 2)), V.bl (decide (i = 3))] ++ [V.bl (decide (i = 4)), V.bl (decide (i = 5)), V.bl (decide (i = 6)), V.bl (decide (i = 7))] ++ [V.bl (decide (i = 8))]).countP (fun z => eqV z (.bl true)) = 1 := by
      rcases c9 with rfl | rfl | rfl | rfl | rfl | rfl | rfl | rfl | rfl <;> rfl
    have iA : ([V.bl (decide (i = 0)), V.bl (decide (i = 1)), V.bl (decide (i = 2)), V.bl (decide (i = 3))] ++ [V.bl (decide (i = 4)), V.bl (decide (i = 5)), V.bl (decide (i = 6)), V.bl (decide (i = 7))] ++ [V.bl (decide (i = 8))])[i]? = some (V.bl true) := by
      rcases c9 with rfl | rfl | rfl | rfl | rfl | rfl | rfl | rfl | rfl <;> rfl
    have mA : ∀ (m : Nat) (z' : V), m < i → ([V.bl (decide (i = 0)), V.bl (decide (i = 1)), V.bl (decide (i = 2)), V.bl (decide (i = 3))] ++ [V.bl (decide (i = 4)), V.bl (decide (i = 5)), V.bl (decide (i = 6)), V.bl (decide (i = 7))] ++ [V.bl (decide (i = 8))])[m]? = some z' → eqV z' (.bl true) = false := by
      intro m z' hm e
      have c8 : m = 0 ∨ m = 1 ∨ m = 2 ∨ m = 3 ∨ m = 4 ∨ m = 5 ∨ m = 6 ∨ m = 7 := by omega
      rcases c8 with rfl | rfl | rfl | rfl | rfl | rfl | rfl | rfl <;> (cases (Option.some.inj e); rw [decide_eq_false (by omega)]; rfl)
    generalize ([V.bl (decide (i = 0)), V.bl (decide (i = 1)), V.bl (decide (i = 2)), V.bl (decide (i = 3))] ++ [V.bl (decide (i = 4)), V.bl (decide (i = 5)), V.bl (decide (i = 6)), V.bl (decide (i = 7))] ++ [V.bl (decide (i = 8))]) = A at S5 S6 a3 a4 fA nA iA mA ⊢
    walk_at "go"
    refine g_tyL a3 ?_
    walk_at "go"
    refine ⟨l3, A, .bl true, rfl, rfl, SqL.of a3, rfl, fA, ?_⟩
    rw [nA]
    walk_at "go"
    refine ⟨C, .ty "ValueError", .type "ValueError", true, rfl, rfl, R.exc, rfl, fun u r => r, R.val, ?_⟩
    walk_at "go"
    refine g_tyL a3 ?_
    walk_at "go"
    refine ⟨l3, A, .bl true, i, .bl true, rfl, rfl, SqL.of a3, rfl, fA, iA, rfl, mA, ?_⟩
    refine g_ixL (v := .str x) (SqL.of a4) (at_of (j := i) rfl (by rw [List.getElem?_map, hx]; rfl)) ?_
    exact k _ S5
end
end K07
namespace K07
open PySem PySem.Spec PyProof.Rows L2 Wd
/-! ### places that are some of a range -/
abbrev nZ (n : Nat) : Int := (n : Int)
theorem ris_sub {n : Nat} : ∀ {acc l : List Nat} {m : Int}, acc.Sublist l → l.Pairwise (· < ·) → (∀ x ∈ l, m < nZ x ∧ x < n) → Ris n m (acc.map nZ)
  | [], _, _, _, _, _ => trivial
  | a :: acc, [], _, h, _, _ => nomatch h
  | a :: acc, b :: l, m, h, p, c => by
    rw [List.pairwise_cons] at p
    cases h with
    | cons _ h => exact ris_sub h p.2 fun x hx => c x (List.mem_cons_of_mem _ hx)
    | cons_cons _ h =>
      have hb := c a List.mem_cons_self
      refine ⟨hb.1, by have := hb.2; show (a : Int) < n; omega, ris_sub h p.2 fun x hx => ⟨?_, (c x (List.mem_cons_of_mem _ hx)).2⟩⟩
      have := p.1 x hx
      show (a : Int) < x
      omega
theorem ris_range {n : Nat} {acc : List Nat} (h : acc.Sublist (List.range n)) : Ris n (-1) (acc.map nZ) :=
  ris_sub h List.pairwise_lt_range fun x hx => ⟨by show (-1 : Int) < (x : Int); omega, List.mem_range.mp hx⟩
theorem filter_sub : ∀ {acc l : List Nat}, acc.Sublist l → l.Nodup → l.filter (fun x => decide (x ∈ acc)) = acc
  | _, [], h, _ => by
    cases h; rfl
  | acc, b :: l, h, nd => by
    rw [List.nodup_cons] at nd
    cases h with
    | cons _ h =>
      have nb : b ∉ acc := fun z => nd.1 (h.subset z)
      rw [List.filter_cons, if_neg (by simpa using nb)]
      exact filter_sub h nd.2
    | @cons_cons acc' _ _ h =>
      rw [List.filter_cons, if_pos (by simp)]
      congr 1
      have nb : b ∉ acc' := fun z => nd.1 (h.subset z)
      have e : l.filter (fun x => decide (x ∈ b :: acc')) = l.filter (fun x => decide (x ∈ acc')) := List.filter_congr fun x hx => by
        have : x ≠ b := fun z => nd.1 (z ▸ hx)
        simp [this]
      rw [e]
      exact filter_sub h nd.2
/-! ### the plan done as its works -/
def leasts (zs : List (Int × Int)) : List Int := zs.map (·.1)
def patsL (ps : List Int) : Nat → List (Int × Int) → Int → List Int
  | _, [], _ => []
  | i, z :: zs, t => (if (i : Int) ∈ ps then [t + z.1] else []) ++ patsL ps (i + 1) zs (t + z.1)
theorem rns_app : ∀ {a b : List Pl} {ds d2 d3 x y : List Int} {t t2 t3 : Int}, rns a ds t = some (x, d2, t2) → rns b d2 t2 = some (y, d3, t3) → rns (a ++ b) ds t = some (x ++ y, d3, t3)
  | [], b, ds, d2, d3, x, y, t, t2, t3, h1, h2 => by
    simp only [rns] at h1
    cases h1
    exact h2
  | p :: a, b, ds, d2, d3, x, y, t, t2, t3, h1, h2 => by
    simp only [rns] at h1
    obtain ⟨u, e, s, v, q1, q2, rfl⟩ := seqR_inv h1
    have q3 := rns_app q2 h2
    simp only [List.cons_append, rns, q1]
    rw [List.append_assoc]
    exact seqR_some q3
theorem run_pw (ps : List Int) : ∀ (zs : List (Int × Int)) (i : Nat) (t : Int), (∀ z ∈ zs, z.1 ≤ z.2) → rns (pw ps i zs) (leasts zs) t = some (patsL ps i zs t, [], t + (leasts zs).sum)
  | [], i, t, _ => by simp only [pw, leasts, patsL, rns, List.map_nil, List.sum_nil, Int.add_zero]
  | z :: zs, i, t, h => by
    have hz := h z List.mem_cons_self
    have ih := run_pw ps zs (i + 1) (t + z.1) fun y hy => h y (List.mem_cons_of_mem _ hy)
    have w1 : rn (.work z.1 z.2) (leasts (z :: zs)) t = some ([], leasts zs, t + z.1) := by
      show rn (.work z.1 z.2) (z.1 :: leasts zs) t = _
      simp only [rn]
      rw [if_pos ⟨Int.le_refl _, hz⟩]
    have s1 : (leasts (z :: zs)).sum = z.1 + (leasts zs).sum := List.sum_cons
    rw [pw, rns, w1, s1, ← Int.add_assoc]
    have e : patsL ps i (z :: zs) t = [] ++ ((if (i : Int) ∈ ps then [t + z.1] else []) ++ patsL ps (i + 1) zs (t + z.1)) := rfl
    rw [e]
    refine seqR_some ?_
    by_cases c : (i : Int) ∈ ps
    · rw [if_pos c, if_pos c]
      refine rns_app (d2 := leasts zs) (t2 := t + z.1) ?_ ih
      simp only [rns, rn]
      rfl
    · rw [if_neg c, if_neg c]
      exact ih
theorem patsL_eq (ps : List Int) : ∀ (zs : List (Int × Int)) (i : Nat) (t : Int), patsL ps i zs t = ((List.range' i zs.length).filter fun k => decide (nZ k ∈ ps)).map fun k => t + ((leasts zs).take (k - i + 1)).sum
  | [], i, t => rfl
  | z :: zs, i, t => by
    have ih := patsL_eq ps zs (i + 1) (t + z.1)
    rw [patsL, ih, List.length_cons, List.range'_succ, List.filter_cons]
    have tl : ((List.range' (i + 1) zs.length).filter fun k => decide (nZ k ∈ ps)).map (fun k => t + z.1 + ((leasts zs).take (k - (i + 1) + 1)).sum) = ((List.range' (i + 1) zs.length).filter fun k => decide (nZ k ∈ ps)).map fun k => t + ((leasts (z :: zs)).take (k - i + 1)).sum := by
      refine List.map_congr_left fun k hk => ?_
      have hm := (List.mem_filter.mp hk).1
      rw [List.mem_range'_1] at hm
      obtain ⟨j, rfl⟩ : ∃ j, k = i + 1 + j := ⟨k - (i + 1), by omega⟩
      have e1 : i + 1 + j - (i + 1) + 1 = j + 1 := by omega
      have e2 : i + 1 + j - i + 1 = (j + 1) + 1 := by omega
      rw [e1, e2]
      show _ = t + ((z.1 :: leasts zs).take ((j + 1) + 1)).sum
      rw [List.take_succ_cons, List.sum_cons, Int.add_assoc]
    by_cases c : nZ i ∈ ps
    · rw [if_pos (show (i : Int) ∈ ps from c), if_pos (by simpa using c), List.map_cons, tl]
      have e0 : i - i + 1 = 1 := by omega
      rw [e0]
      show [t + z.1] ++ _ = (t + ((z.1 :: leasts zs).take 1).sum) :: _
      rw [List.take_succ_cons, List.take_zero, List.sum_cons, List.sum_nil, Int.add_zero]
      rfl
    · rw [if_neg (show ¬ (i : Int) ∈ ps from c), if_neg (by simpa using c), tl]
      rfl
theorem pats_of {zs : List (Int × Int)} {acc : List Nat} (h : acc.Sublist (List.range zs.length)) : patsL (acc.map nZ) 0 zs 0 = acc.map fun k => ((leasts zs).take (k + 1)).sum := by
  rw [patsL_eq]
  have e : (List.range' 0 zs.length).filter (fun k => decide (nZ k ∈ acc.map nZ)) = acc := by
    have : (List.range' 0 zs.length).filter (fun k => decide (nZ k ∈ acc.map nZ)) = (List.range zs.length).filter (fun k => decide (k ∈ acc)) := by
      rw [List.range_eq_range']
      refine List.filter_congr fun k _ => ?_
      have iff : nZ k ∈ acc.map nZ ↔ k ∈ acc := ⟨fun z => by
        obtain ⟨j, hj, e⟩ := List.mem_map.mp z
        have : j = k := by have : (j : Int) = (k : Int) := e; omega
        exact this ▸ hj, fun z => List.mem_map_of_mem z⟩
      simp only [iff]
    rw [this, filter_sub h List.nodup_range]
  rw [e]
  refine List.map_congr_left fun k _ => ?_
  rw [Nat.sub_zero, Int.zero_add]
theorem pw_ok (ps : List Int) : ∀ (zs : List (Int × Int)) (i : Nat), (∀ z ∈ zs, 0 ≤ z.1 ∧ z.1 ≤ z.2 ∧ z.2 ≤ 1000) → okPs 3 2 (pw ps i zs)
  | [], _, _ => trivial
  | z :: zs, i, h => by
    rw [pw]
    have ih := pw_ok ps zs (i + 1) fun y hy => h y (List.mem_cons_of_mem _ hy)
    have hw : okP 3 2 (.work z.1 z.2) := by unfold okP; exact h z List.mem_cons_self
    by_cases c : (i : Int) ∈ ps
    · rw [if_pos c]
      exact ⟨hw, by unfold okP; trivial, ih⟩
    · rw [if_neg c]
      exact ⟨hw, ih⟩
theorem pw_cnt (ps : List Int) : ∀ (zs : List (Int × Int)) (i : Nat), cnts (pw ps i zs) ≤ 2 * zs.length
  | [], _ => Nat.le_refl _
  | z :: zs, i => by
    have ih := pw_cnt ps zs (i + 1)
    rw [pw, List.length_cons]
    split
    · simp only [List.cons_append, List.nil_append, Wd.cnts, Wd.cnt]; omega
    · simp only [List.nil_append, Wd.cnts, Wd.cnt]; omega
/-! ### a row of works and pats, as data -/
def flD : Pl → PyData
  | .pat => .tuple [.str "pat"]
  | .work a b => .tuple [.str "work", .int a, .int b]
  | _ => .none
def isFl : Pl → Prop
  | .pat => True
  | .work _ _ => True
  | _ => False
theorem fl_dp {K : PySem.W.Frag} {H : Hp} {v : V} {p : Pl} (h : PlA H v p) (f : isFl p) : Dp K H v (flD p) := by
  cases h with
  | pat h => exact .tup (SqT.of h) (.cons (.str _) .nil)
  | work h => exact .tup (SqT.of h) (.cons (.str _) (.cons (.int _) (.cons (.int _) .nil)))
  | row _ _ _ => exact f.elim
  | either _ _ _ => exact f.elim
  | loop _ _ => exact f.elim
theorem fls_dp {K : PySem.W.Frag} {H : Hp} : ∀ {ps : List Pl} {vs : List V}, PlAs H vs ps → (∀ p ∈ ps, isFl p) → DpAll K H vs (ps.map flD)
  | [], _, h, _ => by cases h; exact .nil
  | p :: ps, _, h, f => by
    cases h with
    | cons a b => exact .cons (fl_dp a (f p List.mem_cons_self)) (fls_dp b fun q hq => f q (List.mem_cons_of_mem _ hq))
def rowD (ps : List Pl) : PyData := .tuple [.str "row", .tuple (ps.map flD)]
theorem row_dp {K : PySem.W.Frag} {H : Hp} {v : V} {ps : List Pl} (h : PlA H v (.row ps)) (f : ∀ p ∈ ps, isFl p) : Dp K H v (rowD ps) := by
  cases h with
  | row h1 h2 h3 => exact .tup (SqT.of h1) (.cons (.str _) (.cons (.tup (SqT.of h2) (fls_dp h3 f)) .nil))
theorem row_okd {ps : List Pl} (h : ps.length ≤ 100) : OkD 3 (rowD ps) := by
  refine .tup (by show 2 ≤ 100000; decide) fun d hd => ?_
  simp only [List.mem_cons, List.not_mem_nil, or_false] at hd
  rcases hd with rfl | rfl
  · exact .str _
  · refine .tup (by rw [List.length_map]; omega) fun d hd => ?_
    obtain ⟨p, _, rfl⟩ := List.mem_map.mp hd
    cases p with
    | pat => exact .tup (by show 1 ≤ 100000; decide) fun d hd => by rw [List.mem_singleton.mp hd]; exact .str _
    | work a b =>
      refine .tup (by show 3 ≤ 100000; decide) fun d hd => ?_
      simp only [List.mem_cons, List.not_mem_nil, or_false] at hd
      rcases hd with rfl | rfl | rfl
      · exact .str _
      · exact .int _
      · exact .int _
    | row _ => exact .non
    | either _ => exact .non
    | loop _ _ _ => exact .non
theorem pw_fl (ps : List Int) : ∀ (zs : List (Int × Int)) (i : Nat), ∀ p ∈ pw ps i zs, isFl p
  | [], _, p, h => nomatch h
  | z :: zs, i, p, h => by
    rw [pw, List.mem_cons, List.mem_append] at h
    rcases h with rfl | h | h
    · trivial
    · split at h
      · rw [List.mem_singleton.mp h]; trivial
      · cases h
    · exact pw_fl ps zs (i + 1) p h
/-- what run_plan tells, as data -/
def toldD (ns : List Int) (t : Int) : PyData := .tuple [.list (ns.map PyData.int), .int t]
theorem told_okd {ns : List Int} {t : Int} (h : ns.length ≤ 100000) : OkD 2 (toldD ns t) := by
  refine .tup (by show 2 ≤ 100000; decide) fun d hd => ?_
  simp only [List.mem_cons, List.not_mem_nil, or_false] at hd
  rcases hd with rfl | rfl
  · exact .lst (by rw [List.length_map]; exact h) fun d hd => by
      obtain ⟨z, _, rfl⟩ := List.mem_map.mp hd
      exact .int _
  · exact .int _
theorem told_dp {K : PySem.W.Frag} {H : Hp} {r L : Addr} {ns : List Int} {t : Int} (h : H r = some (.tup [.ref L, .int t])) (hL : H L = some (.lst (ns.map V.int))) : Dp K H (.ref r) (toldD ns t) :=
  .tup (SqT.of h) (.cons (dp_ints (SqL.of hL)) (.cons (.int _) .nil))
/-! ### what was handed -/
def wkD (zs : List Wk) : PyData := .list (zs.map fun z => .tuple [.int z.2.1, .int z.2.2])
theorem wk_can : ∀ zs : List Wk, PyData.canLayAll0 (zs.map fun z => PyData.tuple [.int z.2.1, .int z.2.2]) = true
  | [] => rfl
  | z :: zs => by simp [PyData.canLayAll0, PyData.canLay0, wk_can zs]
theorem wk_depth : ∀ zs : List Wk, PyData.depthAll (zs.map fun z => PyData.tuple [.int z.2.1, .int z.2.2]) ≤ 1
  | [] => Nat.zero_le _
  | z :: zs => by
    have := wk_depth zs
    simp only [List.map_cons, PyData.depthAll, PyData.depth]
    omega
theorem wk_dp {K : PySem.W.Frag} {H : Hp} {L : Addr} {zs : List Wk} (w : WkL H L zs) : Dp K H (.ref L) (wkD zs) := by
  refine .lst (SqL.of w.at_) ?_
  have own := w.own
  clear w
  induction zs with
  | nil => exact .nil
  | cons z zs ih => exact .cons (.tup (SqT.of (own z List.mem_cons_self)) (.cons (.int _) (.cons (.int _) .nil))) (ih fun y hy => own y (List.mem_cons_of_mem _ hy))
theorem wk_eqv (zs : List Wk) : PyData.eqv (wkD zs) (wkD zs) = true := by
  unfold wkD
  rw [PyData.eqv]
  induction zs with
  | nil => simp [PyData.eqvAll]
  | cons z zs ih => simp [PyData.eqvAll, PyData.eqv, ih]
def handD (zs : List Wk) (ns : List Int) : PyData := .tuple [wkD zs, .list (ns.map PyData.int)]
theorem hand_shaped (zs : List Wk) (ns : List Int) : SeqAt.shaped (handD zs ns) = true := by
  have := wk_depth zs
  unfold SeqAt.shaped handD wkD
  rw [Bool.and_eq_true]
  refine ⟨by simp only [PyData.canLay0, PyData.canLayAll0, wk_can, PySem.W.ke_canLayAll0 ns, Bool.and_true], decide_eq_true ?_⟩
  simp only [PyData.depth, PyData.depthAll, PySem.W.ke_depthAll ns]
  omega
theorem hand_eqv (zs : List Wk) (ns : List Int) : PyData.eqv (handD zs ns) (handD zs ns) = true := by
  have e := wk_eqv zs
  unfold handD
  rw [PyData.eqv]
  simp only [PyData.eqvAll, e, PyData.eqv, Bool.true_and, Bool.and_true]
  induction ns with
  | nil => simp [PyData.eqvAll]
  | cons n ns ih => simp [PyData.eqvAll, PyData.eqv, ih]
theorem g_neHand {K : PySem.W.Frag} {a b a1 a2 b1 b2 : Addr} {zs : List Wk} {ns : List Int} {H : Hp} {Q : VK} (h1 : H a = some (.tup [.ref a1, .ref a2])) (h2 : H b = some (.tup [.ref b1, .ref b2])) (w1 : WkL H a1 zs) (w2 : WkL H b1 zs) (n1 : SqL K H a2 (ns.map V.int)) (n2 : SqL K H b2 (ns.map V.int)) (q : Q (.bl false) H) : rNeD K (.ref a) (.ref b) H Q :=
  ⟨_, _, .tup (SqT.of h1) (.cons (wk_dp w1) (.cons (dp_ints n1) .nil)), .tup (SqT.of h2) (.cons (wk_dp w2) (.cons (dp_ints n2) .nil)), hand_shaped _ _, hand_shaped _ _, by show Q (.bl (!PyData.eqv (handD zs ns) (handD zs ns))) H; rw [hand_eqv]; exact q⟩
end K07
namespace K07
open PySem PySem.Spec PyProof.Rows L2 Wd
local macro_rules | `(tactic| walk_at "gs") => `(tactic| repeat (first
  | with_reducible refine Wd.g_seq ?_
  | ((with_reducible show L2.Ends.nx _ _ _); (with_reducible refine Wd.g_nx ?_))
  | with_reducible refine Wd.g_asg ?_
  | ((with_reducible refine' Wd.g_var ?h1 ?_); (case h1 => exact rfl))
  | with_reducible refine Wd.g_c ?_
  | with_reducible refine Wd.g_op ?_
  | with_reducible refine Wd.g_un ?_
  | with_reducible refine Wd.g_I0 ?_
  | with_reducible refine Wd.g_U ?_
  | with_reducible refine Wd.g_eqI ?_
  | with_reducible refine Wd.g_neI ?_
  | with_reducible refine Wd.g_eqS ?_
  | with_reducible refine Wd.g_neS ?_
  | with_reducible refine Wd.g_eqB ?_
  | with_reducible refine Wd.g_neB ?_
  | with_reducible refine Wd.g_isN ?_
  | with_reducible refine Wd.g_notN ?_
  | with_reducible refine Wd.g_lc ?_
  | with_reducible refine Wd.g_yes ?_
  | with_reducible refine Wd.g_test ?_
  | with_reducible refine Wd.g_tB ?_
  | with_reducible refine Wd.g_bl ?_
  | with_reducible refine Wd.g_blI ?_
  | with_reducible refine Wd.g_and ?_
  | with_reducible refine Wd.g_or ?_
  | with_reducible refine Wd.g_not ?_
  | with_reducible refine Wd.g_andV ?_
  | with_reducible refine Wd.g_orV ?_
  | with_reducible refine Wd.g_notV ?_
  | with_reducible refine Wd.g_if ?_
  | with_reducible refine Wd.g_chain ?_
  | with_reducible refine Wd.g_chain3 ?_
  | with_reducible refine Wd.g_nil ?_
  | with_reducible refine Wd.g_cons ?_
  | with_reducible refine Wd.g_tup ?_
  | with_reducible refine Wd.g_lst ?_
  | with_reducible refine Wd.g_CB ?_
  | with_reducible refine Wd.g_call ?_
  | with_reducible refine Wd.g_callS ?_
  | with_reducible refine Wd.g_bm ?_
  | with_reducible refine Wd.g_bm0 ?_
  | with_reducible refine Wd.g_sl ?_
  | with_reducible refine Wd.g_part ?_
  | with_reducible refine Wd.g_part1 ?_
  | with_reducible refine Wd.g_noPart ?_
  | with_reducible refine Wd.g_next ?_
  | with_reducible refine Wd.g_name ?_
  | with_reducible refine Wd.g_sub ?_
  | with_reducible refine Wd.g_gnil ?_
  | with_reducible refine Wd.g_gcons ?_
  | with_reducible refine Wd.g_drop ?_
  | with_reducible refine Wd.g_ret ?_
  | with_reducible refine Wd.g_retN ?_
  | with_reducible refine Wd.g_brk ?_
  | with_reducible refine Wd.g_cont ?_
  | ((with_reducible show L2.Ends.bk _ _ _); (with_reducible refine Wd.g_bk ?_))
  | ((with_reducible show L2.Ends.ct _ _ _); (with_reducible refine Wd.g_ct ?_))
  | ((with_reducible show L2.Ends.rt _ _ _); (with_reducible refine Wd.g_rt ?_))
  | with_reducible refine Wd.g_for ?_
  | with_reducible refine Wd.g_rng1 ?_
  | with_reducible refine Wd.g_rng2 ?_
  | with_reducible refine Wd.g_iList ?_
  | with_reducible refine Wd.g_iTup ?_
  | ((with_reducible refine Wd.g_fit ?h1 ?_); (case h1 => exact rfl))
  | with_reducible refine Wd.g_max2 ?_
  | with_reducible refine Wd.g_min2 ?_
  | with_reducible refine Wd.g_int1B ?_
  | with_reducible refine L2.iteT ?_
  | with_reducible refine L2.iteF ?_
  | ((with_reducible refine Wd.g_itT ?h1 ?_); (case h1 => exact rfl))
  | ((with_reducible refine Wd.g_itF ?h1 ?_); (case h1 => exact rfl))))
section
variable {P : Program} {w : World} {K : PySem.W.Frag} {mg : Str → Option Value} {base : Heap} {CW CB CR : Addr}
abbrev s_law : Stmt := top 47
theorem sc_law : FnScope ["_law_script", "_law_state", "_law_turn", "_law_works_here", "_law_places", "_law_place", "_law_parts", "_law_k", "_law_handed", "_law_found", "_law_delays", "_law_work", "_law_pats", "_law_many", "_law_odd_here", "_law_bad", "_law_window", "_law_some"] ["_law_script"] (C8.fnScope s_law) := C8.fnScope_by (by decide +kernel)
def lamQ : Str := "law.<locals>.<lambda>"
/-! the law's lambdas that stand in a list -/
def loopB : Stmt → List Stmt
  | .For _ _ b _ _ => b
  | _ => []
def valOf : Stmt → Expr
  | .Assign _ v _ => v
  | .Expr v _ => v
  | _ => .Constant .none 0 ⟨0, 0, 0, 0⟩
def elt0 : Expr → Expr
  | .List (e :: _) _ => e
  | .Call _ (e :: _) _ _ => e
  | e => e
def lamOf : Expr → Arguments × Expr × Scope
  | .Lambda p b s _ => (p, b, s)
  | e => (C8.fnArgs s_law, e, C8.fnScope s_law)
def lamAt (k : Nat) : Arguments × Expr × Scope := lamOf (elt0 (valOf ((loopB ((C8.fnBody s_law).getD 1 (.Pass ⟨0, 0, 0, 0⟩))).getD k (.Pass ⟨0, 0, 0, 0⟩))))
def lam1 : Arguments × Expr × Scope := lamAt 15
def lam2 : Arguments × Expr × Scope := lamAt 16
def lam3 : Arguments × Expr × Scope := lamAt 17
/-- what stands while a turn goes on -/
structure Bw (K : PySem.W.Frag) (B : Hp) (S L Pt : Addr) (zs : List Wk) (H : Hp) (Lv : List (Addr × HO)) : Prop where
  d : Dst K (noT B) H S
  tb : LamX.Tabs [(Pt, lamQ)] H
  wk : WkS S H L zs
  lv : Live S H Lv
  nt : ∀ p ∈ Lv, ∀ ps, p.2 ≠ .tbl ps
section
variable {B H H' : Hp} {S L Pt : Addr} {zs : List Wk} {Lv : List (Addr × HO)}
theorem Bw.new {p : Addr} {o : HO} (b : Bw K B S L Pt zs H Lv) (hp : H p = none) (n : ∀ ps, o ≠ .tbl ps := by intro _ z; cases z) : Bw K B S L Pt zs (upd H p o) ((p, o) :: Lv) :=
  ⟨b.d.same (same_new hp), tabs_same b.tb (same_new hp), b.wk.frm (.new hp), b.lv.new hp b.d.has, fun q hq => by
    rcases List.mem_cons.mp hq with rfl | hq
    · exact n
    · exact b.nt q hq⟩
theorem Bw.frm (b : Bw K B S L Pt zs H Lv) (f : Frm S H H') (d : Dst K (noT B) H' S) : Bw K B S L Pt zs H' Lv := ⟨d, tabs_frm b.tb b.d f, b.wk.frm f, b.lv.frm f, b.nt⟩
theorem Bw.same (b : Bw K B S L Pt zs H Lv) (e : Same H H') : Bw K B S L Pt zs H' Lv := ⟨b.d.same e, tabs_same b.tb e, b.wk.frm (.of e), b.lv.frm (.of e), b.nt⟩
theorem Bw.ext (b : Bw K B S L Pt zs H Lv) (e : LamX.ExtN H H') (t : LamX.Tabs [(Pt, lamQ)] H') : Bw K B S L Pt zs H' Lv :=
  ⟨b.d.ext e, t, ⟨e _ _ b.wk.at_ (fun _ z => nomatch z), b.wk.nS, fun z hz => ⟨e _ _ (b.wk.own z hz).1 (fun _ z => nomatch z), (b.wk.own z hz).2⟩⟩, fun p hp => ⟨(b.lv p hp).1, e _ _ (b.lv p hp).2 (b.nt p hp)⟩, b.nt⟩
theorem Bw.add {p : Addr} {o : HO} (b : Bw K B S L Pt zs H Lv) (np : p ≠ S) (h : H p = some o) (n : ∀ ps, o ≠ .tbl ps := by intro _ z; cases z) : Bw K B S L Pt zs H ((p, o) :: Lv) :=
  ⟨b.d, b.tb, b.wk, b.lv.cons np h, fun q hq => by
    rcases List.mem_cons.mp hq with rfl | hq
    · exact n
    · exact b.nt q hq⟩
theorem Bw.mut0 {D : Addr} {o : HO} {xs : List V} (b : Bw K B S L Pt zs H []) (nD : D ≠ S) (fD : noT B D = none) (nL : D ≠ L) (h : H D = some (.lst xs)) : Bw K B S L Pt zs (upd H D o) [] := by
  refine ⟨b.d.mut nD fD, fun p hp => ?_, ⟨by rw [upd_ne (fun z => nL z.symm)]; exact b.wk.at_, b.wk.nS, fun z hz => ⟨by rw [upd_ne (ne_of (b.wk.own z hz).1 h (fun z => nomatch z))]; exact (b.wk.own z hz).1, (b.wk.own z hz).2⟩⟩, Live.nil, fun p hp => nomatch hp⟩
  obtain ⟨ps, h1, h2, h3⟩ := b.tb p hp
  refine ⟨ps, by rw [upd_ne (ne_of h1 h (fun z => nomatch z))]; exact h1, h2, fun pos cv hc => ?_⟩
  obtain ⟨c', e1, e2⟩ := h3 pos cv hc
  exact ⟨c', e1, by rw [upd_ne (ne_of e2 h (fun z => nomatch z))]; exact e2⟩
theorem Bw.lam {M : Hp} {f c' : Addr} {lo : HO} {q : Str} (b : Bw K B S L Pt zs H Lv) (x : LamX.ExtN H M) (t : LamX.Tabs [(Pt, lamQ)] M) (nf : ∀ b o, H b = some o → (∀ ps, o ≠ .tbl ps) → b ≠ f) (hf : M f = some lo) (nlo : ∀ ps, lo ≠ .tbl ps) (hc : M c' = some (LamX.CodeO c' q)) : Bw K B S L Pt zs M ((f, lo) :: (c', LamX.CodeO c' q) :: Lv) := by
  have b1 := b.ext x t
  obtain ⟨sc, ns, c, m, r, hS, _⟩ := b.d
  obtain ⟨sc1, ns1, c1, m1, r1, hS1, _⟩ := b1.d
  have n1 : f ≠ S := fun z => nf S _ hS (fun _ z => nomatch z) z.symm
  have n2 : c' ≠ S := ne_of hc hS1 (fun z => by unfold LamX.CodeO at z; cases z)
  exact (b1.add n2 hc LamX.codeO_ne).add n1 hf nlo
theorem Bw.put {D : Addr} {o : HO} {xs : List V} (b : Bw K B S L Pt zs H Lv) (nD : D ≠ S) (fD : noT B D = none) (nL : D ≠ L) (h : H D = some (.lst xs)) (hl : ∀ p ∈ Lv, ∀ ys, p.2 ≠ .lst ys) : Bw K B S L Pt zs (upd H D o) Lv := by
  have k : ∀ p u, H p = some u → (∀ ys, u ≠ .lst ys) → upd H D o p = some u := fun p u e n => by rw [upd_ne (fun z => by rw [z, h] at e; exact n xs (Option.some.inj e).symm)]; exact e
  refine ⟨b.d.mut nD fD, fun p hp => ?_, ⟨by rw [upd_ne (fun z => nL z.symm)]; exact b.wk.at_, b.wk.nS, fun z hz => ⟨k _ _ (b.wk.own z hz).1 (fun _ z => nomatch z), (b.wk.own z hz).2⟩⟩, fun p hp => ⟨(b.lv p hp).1, k _ _ (b.lv p hp).2 (hl p hp)⟩, b.nt⟩
  obtain ⟨ps, h1, h2, h3⟩ := b.tb p hp
  refine ⟨ps, k _ _ h1 (fun _ z => nomatch z), h2, fun pos cv hc => ?_⟩
  obtain ⟨c', e1, e2⟩ := h3 pos cv hc
  exact ⟨c', e1, k _ _ e2 (fun ys z => by unfold LamX.CodeO at z; cases z)⟩
theorem codeO_nl {c' : Addr} {q : Str} (ys : List V) : LamX.CodeO c' q ≠ .lst ys := fun z => by unfold LamX.CodeO at z; cases z
theorem lamO_nl {f c' : Addr} {q : Str} {params : Arguments} {body : Expr} {scope : Scope} {cl : List (Str × Addr)} {dV : Value} (ys : List V) : LamY.LamO f q params body scope cl dV c' ≠ .lst ys := fun z => by unfold LamY.LamO at z; cases z
theorem WkS.put1 {O D : Addr} {o : HO} {ys : List Wk} {xs : List V} (t : WkS S H O ys) (n : D ≠ O) (h : H D = some (.lst xs)) : WkS S (upd H D o) O ys :=
  ⟨by rw [upd_ne (fun z => n z.symm)]; exact t.at_, t.nS, fun z hz => ⟨by rw [upd_ne (ne_of (t.own z hz).1 h (fun z => nomatch z))]; exact (t.own z hz).1, (t.own z hz).2⟩⟩
theorem Bw.cut (b : Bw K B S L Pt zs H Lv) {Lv' : List (Addr × HO)} (h : ∀ p ∈ Lv', p ∈ Lv) : Bw K B S L Pt zs H Lv' := ⟨b.d, b.tb, b.wk, fun p hp => b.lv p (h p hp), fun p hp => b.nt p (h p hp)⟩
end
def sp_law (K : PySem.W.Frag) (Pt : Addr) : Sp := fun vs H Q _ => ∃ (sc : Addr) (ns : List Int), vs = [.ref sc] ∧ SqL K H sc (ns.map V.int) ∧ ns.length ≤ 63 ∧ H Pt = some (.tbl #[]) ∧ ∀ H', Q (.bl true) H'
theorem strs_dp {K : PySem.W.Frag} {H : Hp} : ∀ xs : List Str, DpAll K H (xs.map V.str) (xs.map PyData.str)
  | [] => .nil
  | x :: xs => .cons (.str x) (strs_dp xs)
theorem strs_can : ∀ xs : List Str, xs.all PyData.strOk = true → PyData.canLayAll0 (xs.map PyData.str) = true
  | [], _ => rfl
  | x :: xs, h => by
    rw [List.all_cons, Bool.and_eq_true] at h
    simp [PyData.canLayAll0, PyData.canLay0, strs_can xs h.2, h.1]
theorem strs_dep : ∀ xs : List Str, PyData.depthAll (xs.map PyData.str) = 0
  | [] => rfl
  | x :: xs => by simp [PyData.depthAll, PyData.depth, strs_dep xs]
theorem strs_eqv : ∀ xs : List Str, PyData.eqvAll (xs.map PyData.str) (xs.map PyData.str) = true
  | [] => by simp [PyData.eqvAll]
  | x :: xs => by
    have := strs_eqv xs
    simp [PyData.eqvAll, PyData.eqv, this]
theorem g_neStrs {K : PySem.W.Frag} {a b : Addr} {xs : List Str} {H : Hp} {Q : VK} (h1 : H a = some (.lst (xs.map V.str))) (h2 : H b = some (.lst (xs.map V.str))) (ok : xs.all PyData.strOk = true) (q : Q (.bl false) H) : rNeD K (.ref a) (.ref b) H Q := by
  have sh : SeqAt.shaped (.list (xs.map PyData.str)) = true := by
    unfold SeqAt.shaped
    rw [Bool.and_eq_true]
    refine ⟨by simp only [PyData.canLay0]; exact strs_can xs ok, decide_eq_true ?_⟩
    simp only [PyData.depth, strs_dep]
    decide
  refine ⟨_, _, .lst (SqL.of h1) (strs_dp xs), .lst (SqL.of h2) (strs_dp xs), sh, sh, ?_⟩
  have : PyData.eqv (.list (xs.map PyData.str)) (.list (xs.map PyData.str)) = true := by rw [PyData.eqv]; exact strs_eqv xs
  rw [this]; exact q
theorem WkS.ext {S : Addr} {H H' : Hp} {L : Addr} {zs : List Wk} (t : WkS S H L zs) (e : LamX.ExtN H H') : WkS S H' L zs := ⟨e _ _ t.at_ (fun _ z => nomatch z), t.nS, fun z hz => ⟨e _ _ (t.own z hz).1 (fun _ z => nomatch z), (t.own z hz).2⟩⟩
theorem g_kind {K : PySem.W.Frag} {CD : Addr} {cs : List Addr} {tl : XK → Hp → VK → Prop} {H : Hp} {Q : VK} (h : tl (EKind K CD cs Q) H Q) : TKind K CD cs tl H Q := h
theorem OkD.up : ∀ {n : Nat} {d : PyData}, OkD n d → OkD (n + 1) d
  | _, _, .non => .non
  | _, _, .bl b => .bl b
  | _, _, .int i => .int i
  | _, _, .str x => .str x
  | _, _, .lst h k => .lst h fun d hd => OkD.up (k d hd)
  | _, _, .tup h k => .tup h fun d hd => OkD.up (k d hd)
theorem ok_law (T : TxtW K mg CW CB) {CD : Addr} {cs : List Addr} (R : Refs K mg CD cs) (RW : IsRef K CD cs 0 CW) (RB : IsRef K CD cs 3 CB) {c Pt : Addr} (TB : LamX.TabB base mg c Pt)
    {f fk : Addr} {fdk : FuncData} {dV kV doc pm ct oc : Value} {an od : Option Addr} {osl : Array (Option Value)}
    (lk : K.lookup f = some ⟨oc, od, .func (PySem.W.fnOf "law" "law" (C8.fnArgs s_law) (C8.fnBody s_law) (C8.fnScope s_law) dV kV doc pm an (.ref c) ct), osl⟩) (hcd : PySem.W.codeIn K (.ref c) "law" = true)
    (Dk : C8.Def K mg "_law_kind" s_law_kind fk fdk) (bk : Binds K fdk ["_law_work"] [])
    (g_law_start : C8.Cal P w K mg base 1 "_law_start" (sp_start K) []) (g_law_drawn : C8.Cal P w K mg base 1 "_law_drawn" (sp_drawn K) []) (g_law_far : C8.Cal P w K mg base 2 "_law_far" (sp_far K) []) (g_law_works : C8.Cal P w K mg base 2 "_law_works" (sp_works K) []) (g_law_odd : C8.Cal P w K mg base 3 "_law_odd" (sp_odd K) [])
    (g_law_same : ∀ n : Nat, C8.Cal P w K mg base n "_law_same" (sp_same K n) []) (g_run_plan : C8.Cal P w K mg base 8 "run_plan" sp_run_plan []) (g_plan_with : CalX P w K mg base 4 "plan_with" (sp_plan_with K CB))
    (g_fewest : CalX P w K mg base 6 "fewest" (sp_bad2 K CW CB)) (g_levels_from : CalX P w K mg base 6 "levels_from" (sp_bad3 K CW CB)) (g_shown : CalX P w K mg base 6 "shown" (sp_bad3 K CW CB)) :
    FnOk P w K mg base C8.CX0 9 f (PySem.W.fnOf "law" "law" (C8.fnArgs s_law) (C8.fnBody s_law) (C8.fnScope s_law) dV kV doc pm an (.ref c) ct) ["_law_script"] (sp_law K Pt) := by
  have g_law_same := g_law_same 4
  refine fn_code lk hcd sc_law (fun vs H Q E h => ?_) fun A outer s H vs Q E hr h => ?_
  · obtain ⟨sc, ns, rfl, _⟩ := h; rfl
  · obtain ⟨sc, ns, rfl, hsc, hl, hT, q⟩ := h
    have nd := sc_law.nd
    obtain ⟨oc', od', dV', kV', doc', pm', an', cdv', ct', osl', rfl, lkk, hck⟩ := Dk.fn.ex
    refine ⟨_, (pss_cons (ps_set (i := 1) nd rfl (Or.inr rfl) (C8.pe_c g_law_start hr (by first | decide | exact Nat.le_refl _ | omega) (by rfl) (pa_cons (pv 0) pa_nil)))
      (pss_cons (ps_for PassesOwn.never rfl (pi_range1 rfl T.n_range (pa_cons pe_int pa_nil)) (pg_name (i := 2) nd rfl (Or.inl rfl)) (pss_cons (ps_set (i := 3) nd rfl (Or.inr rfl) (C8.pe_c g_law_works hr (by first | decide | exact Nat.le_refl _ | omega) (by rfl) (pa_cons (pv 1) pa_nil)))
      (pss_cons (ps_setLc (i := 4) (own := [("_law_place", 5)]) (g := gName 5) rfl nd rfl rfl (sw_true rfl rfl rfl (by decide +kernel)) (pi_range1 rfl T.n_range (pa_cons (pe_callB (r := Wd.rLen K) call_len1 (by rfl) T.n_len PySem.boot_len (pa_cons (pv 3) pa_nil)) pa_nil)) (blkOk_by (N := ["_law_script", "_law_state", "_law_turn", "_law_works_here", "_law_places", "_law_place", "_law_parts", "_law_k", "_law_handed", "_law_found", "_law_delays", "_law_work", "_law_pats", "_law_many", "_law_odd_here", "_law_bad", "_law_window", "_law_some"]) (sc := C8.fnScope s_law) (by decide +kernel)) (fun _ _ _ _ _ => pg_name (i := 5) nd rfl (Or.inl rfl)) (fun _ _ _ _ _ => pts_one (pt_cmpR op_eq (C8.pe_c g_law_drawn hr (by first | decide | exact Nat.le_refl _ | omega) (by rfl) (pa_cons (pv 1) (pa_cons pe_int pa_nil))) pe_int (nomark _))) (fun _ _ _ _ _ => (pv 5)))
      (pss_cons (ps_set (i := 6) nd rfl (Or.inl rfl) (pe_lst pa_nil))
      (pss_cons (ps_for PassesOwn.never rfl (pi_range1 rfl T.n_range (pa_cons (pe_callB (r := Wd.rLen K) call_len1 (by rfl) T.n_len PySem.boot_len (pa_cons (pv 3) pa_nil)) pa_nil)) (pg_name (i := 7) nd rfl (Or.inl rfl)) (pss_one (ps_set (i := 6) nd rfl (Or.inl rfl) (pe_op op_cat (pe_op op_cat (pv 6) (pe_lst (pa_cons (pe_op (r := rCatT K) op_catT (pe_tup (pa_cons pe_str pa_nil)) (pe_ix (r := rIxL K) ix_list (pv 3) (pv 7) (fun _ _ => rfl))) pa_nil))) (pe_op op_rep (pe_lst (pa_cons (pe_tup (pa_cons pe_str pa_nil)) pa_nil)) (pe_callTy call_intB (by rfl) T.n_int (by decide +kernel) (pa_cons (pe_cmpR (r := rIn K false) op_in_seq (pv 7) (pv 4) (by with_unfolding_all rfl)) pa_nil)))))))
      (pss_cons (ps_set (i := 8) nd rfl (Or.inl rfl) (pe_tup (pa_cons (pe_callTy (r := rListOf K) call_list1 (by rfl) T.n_list (by decide +kernel) (pa_cons (pv 3) pa_nil)) (pa_cons (pe_callTy (r := rListOf K) call_list1 (by rfl) T.n_list (by decide +kernel) (pa_cons (pv 4) pa_nil)) pa_nil))))
      (pss_cons (ps_set (i := 9) nd rfl (Or.inl rfl) (pe_cX g_plan_with hr (by first | decide | exact Nat.le_refl _ | omega) (by rfl) (fun σ => passAt (W := fun _ _ _ _ => False) LamX.takes0 σ) (pa_cons (pe_ix (r := rIxT K) ix_tup (pv 8) pe_int (fun _ _ => rfl)) (pa_cons (pe_ix (r := rIxT K) ix_tup (pv 8) pe_int (fun _ _ => rfl)) pa_nil))))
      (pss_cons (ps_if (PW.pt (pw_or (pt_not (pt_val (C8.pe_c g_law_same hr (by first | decide | exact Nat.le_refl _ | omega) (by rfl) (pa_cons (pv 9) (pa_cons (pe_tup (pa_cons pe_str (pa_cons (pe_callTy (r := rTupOf K) call_tuple1 (by rfl) T.n_tuple (by decide +kernel) (pa_cons (pv 6) pa_nil)) pa_nil))) pa_nil))))) (pw_or1 (pt_cmpR (r := rNeD K) (op_neD hr.units) (pv 8) (pe_tup (pa_cons (pv 3) (pa_cons (pv 4) pa_nil))) (nomark _))))) (pss_one (ps_ret pe_bl)) pss_nil)
      (pss_cons (ps_set (i := 10) nd rfl (Or.inr rfl) (pe_lc (own := [("_law_work", 11)]) (g := gName 11) (tt := tYes) rfl nd (pi_list (pv 3)) (blkOk_by (N := ["_law_script", "_law_state", "_law_turn", "_law_works_here", "_law_places", "_law_place", "_law_parts", "_law_k", "_law_handed", "_law_found", "_law_delays", "_law_work", "_law_pats", "_law_many", "_law_odd_here", "_law_bad", "_law_window", "_law_some"]) (sc := C8.fnScope s_law) (by decide +kernel)) (fun _ _ _ _ _ => pg_name (i := 11) nd rfl (Or.inl rfl)) (fun _ _ _ _ _ => pts_nil) (fun _ _ _ _ _ => (pe_ix (r := rIxT K) ix_tup (pv 11) pe_int (fun _ _ => rfl)))))
      (pss_cons (ps_setLc (i := 12) (own := [("_law_place", 5)]) (g := gName 5) (tt := tYes) rfl nd rfl rfl (sw_true rfl rfl rfl (by decide +kernel)) (pi_list (pv 4)) (blkOk_by (N := ["_law_script", "_law_state", "_law_turn", "_law_works_here", "_law_places", "_law_place", "_law_parts", "_law_k", "_law_handed", "_law_found", "_law_delays", "_law_work", "_law_pats", "_law_many", "_law_odd_here", "_law_bad", "_law_window", "_law_some"]) (sc := C8.fnScope s_law) (by decide +kernel)) (fun _ _ _ _ _ => pg_name (i := 5) nd rfl (Or.inl rfl)) (fun _ _ _ _ _ => pts_nil) (fun _ _ _ _ _ => (pe_callB (r := rSum K) (cr_sum rfl) (by rfl) T.n_sum (by decide +kernel) (pa_cons (pe_slice (r := rSlL K) sl_list (pv 10) po_none (po_some (pe_op op_add (pv 5) pe_int))) pa_nil))))
      (pss_cons (ps_if (pt_not (pt_val (C8.pe_c g_law_same hr (by first | decide | exact Nat.le_refl _ | omega) (by rfl) (pa_cons (C8.pe_c g_run_plan hr (by first | decide | exact Nat.le_refl _ | omega) (by rfl) (pa_cons (pv 9) (pa_cons (pv 10) pa_nil))) (pa_cons (pe_tup (pa_cons (pv 12) (pa_cons (pe_callB (r := rSum K) (cr_sum rfl) (by rfl) T.n_sum (by decide +kernel) (pa_cons (pv 10) pa_nil)) pa_nil))) pa_nil))))) (pss_one (ps_ret pe_bl)) pss_nil)
      (pss_cons (ps_set (i := 13) nd rfl (Or.inl rfl) (pe_callB (r := Wd.rLen K) call_len1 (by rfl) T.n_len PySem.boot_len (pa_cons (pv 3) pa_nil)))
      (pss_cons (ps_set (i := 14) nd rfl (Or.inr rfl) (pe_ix (r := rIxL K) ix_list (pe_lst (pa_cons (pe_lst (pa_cons pe_int (pa_cons pe_int pa_nil))) (pa_cons (pe_lst (pa_cons (pv 13) pa_nil)) (pa_cons (pe_lst (pa_cons (pe_op op_sub pe_int pe_int) pa_nil)) (pa_cons (pe_lst (pa_cons pe_int (pa_cons pe_int pa_nil))) (pa_cons (pe_lst (pa_cons (C8.pe_c g_law_far hr (by first | decide | exact Nat.le_refl _ | omega) (by rfl) (pa_cons (pv 1) (pa_cons (pe_op op_sub (pv 13) pe_int) pa_nil))) pa_nil)) (pa_cons (pe_lst (pa_cons pe_int (pa_cons (pe_op op_add (pv 13) pe_int) pa_nil))) pa_nil))))))) (C8.pe_c g_law_drawn hr (by first | decide | exact Nat.le_refl _ | omega) (by rfl) (pa_cons (pv 1) (pa_cons pe_int pa_nil))) (fun _ _ => rfl)))
      (pss_cons (ps_set (i := 15) nd rfl (Or.inr rfl) (C8.pe_c g_law_odd hr (by first | decide | exact Nat.le_refl _ | omega) (by rfl) (pa_cons (pv 1) (pa_cons (pv 3) pa_nil))))
      (pss_cons (ps_if (pt_cmpR (r := rNeD K) (op_neD hr.units) (pe_lst (pa_cons (LamX.pe_lamcall (k := 6) (T := [(Pt, lamQ)]) (TT := TKind K CD cs) (by rfl) Dk.mgf Dk.kp lkk hck bk sc_law_kind rfl (Or.inl rfl) (kind_gives R) TB rfl (List.mem_singleton.mpr rfl) (fun p hp _ => by rw [List.mem_singleton.mp hp]; rfl) hr (LamX.lamS_by (show LamX.lamSB (C8.fnScope s_law) _ = true by decide +kernel)) rfl (fun _ _ _ _ _ => rfl) (fun A outer s H E f c' hr2 => (pe_cX g_plan_with hr2 (by first | decide | exact Nat.le_refl _ | omega) (by rfl) (fun σ => passAt (takes_of rfl rfl rfl rfl) σ) (pa_cons (pv 3) (pa_cons (pv 14) pa_nil))))) (pa_cons (LamY.pe_kindL (k := 6) (TT := TKind K CD cs) (bs := ["_law_a"]) (Dfl := fun D H => H D = some (.tup [.int 0])) (dVof := fun D => .ref D) (by rfl) Dk.mgf Dk.kp lkk hck bk sc_law_kind rfl (Or.inl rfl) (kind_gives R) hr (LamY.lamD_by (show LamY.lamDB ["_law_script", "_law_state", "_law_turn", "_law_works_here", "_law_places", "_law_place", "_law_parts", "_law_k", "_law_handed", "_law_found", "_law_delays", "_law_work", "_law_pats", "_law_many", "_law_odd_here", "_law_bad", "_law_window", "_law_some"] (C8.fnScope s_law) _ ["_law_a"] = true by decide +kernel)) (fun D s' H' doc pm cv ctv ok hD => LamY.bind_one ok hD rfl rfl (fun _ => rfl)) (fun A outer s H E f c' hr2 => (pe_cX g_plan_with hr2 (by first | decide | exact Nat.le_refl _ | omega) (by rfl) (fun σ => passAt (takes_of rfl rfl rfl rfl) σ) (pa_cons (pv 15) (pa_cons (pe_lst pa_nil) pa_nil)))) (pa_cons (LamY.pe_lamD (n := 0) (T := [(Pt, lamQ)]) TB rfl (List.mem_singleton.mpr rfl) (fun p hp _ => by rw [List.mem_singleton.mp hp]; rfl) (LamY.LamD.free (LamY.lamD_by (N := ["_law_script", "_law_state", "_law_turn", "_law_works_here", "_law_places", "_law_place", "_law_parts", "_law_k", "_law_handed", "_law_found", "_law_delays", "_law_work", "_law_pats", "_law_many", "_law_odd_here", "_law_bad", "_law_window", "_law_some"]) (bs := ["_law_a"]) (show LamY.lamDB ["_law_script", "_law_state", "_law_turn", "_law_works_here", "_law_places", "_law_place", "_law_parts", "_law_k", "_law_handed", "_law_found", "_law_delays", "_law_work", "_law_pats", "_law_many", "_law_odd_here", "_law_bad", "_law_window", "_law_some"] (C8.fnScope s_law) _ ["_law_a"] = true by decide +kernel))) rfl rfl) pa_nil)) pa_nil))) (pe_op op_rep (pe_lst (pa_cons pe_str pa_nil)) pe_int) (nomark _)) (pss_one (ps_ret pe_bl)) pss_nil)
      (pss_cons (ps_set (i := 16) nd rfl (Or.inr rfl) (pe_tup (pa_cons pe_int (pa_cons pe_int pa_nil))))
      (pss_cons (ps_set (i := 17) nd rfl (Or.inl rfl) (pe_lst (pa_cons (LamY.pe_lamS (T := [(Pt, lamQ)]) TB rfl (List.mem_singleton.mpr rfl) (fun p hp _ => by rw [List.mem_singleton.mp hp]; rfl) (LamY.LamD.free (LamY.lamD_by (N := ["_law_script", "_law_state", "_law_turn", "_law_works_here", "_law_places", "_law_place", "_law_parts", "_law_k", "_law_handed", "_law_found", "_law_delays", "_law_work", "_law_pats", "_law_many", "_law_odd_here", "_law_bad", "_law_window", "_law_some"]) (bs := []) (show LamY.lamDB ["_law_script", "_law_state", "_law_turn", "_law_works_here", "_law_places", "_law_place", "_law_parts", "_law_k", "_law_handed", "_law_found", "_law_delays", "_law_work", "_law_pats", "_law_many", "_law_odd_here", "_law_bad", "_law_window", "_law_some"] (C8.fnScope s_law) _ [] = true by decide +kernel))) rfl) pa_nil)))
      (pss_cons (ps_expr (pe_bmK (K := K) rfl PySem.F.plainAttrs_list PySem.F.slot_list_append PySem.F.type_list_append mt_append (pv 17) (pa_cons (LamY.pe_lamS (T := [(Pt, lamQ)]) TB rfl (List.mem_singleton.mpr rfl) (fun p hp _ => by rw [List.mem_singleton.mp hp]; rfl) (LamY.LamD.free (LamY.lamD_by (N := ["_law_script", "_law_state", "_law_turn", "_law_works_here", "_law_places", "_law_place", "_law_parts", "_law_k", "_law_handed", "_law_found", "_law_delays", "_law_work", "_law_pats", "_law_many", "_law_odd_here", "_law_bad", "_law_window", "_law_some"]) (bs := []) (show LamY.lamDB ["_law_script", "_law_state", "_law_turn", "_law_works_here", "_law_places", "_law_place", "_law_parts", "_law_k", "_law_handed", "_law_found", "_law_delays", "_law_work", "_law_pats", "_law_many", "_law_odd_here", "_law_bad", "_law_window", "_law_some"] (C8.fnScope s_law) _ [] = true by decide +kernel))) rfl) pa_nil)))
      (pss_cons (ps_expr (pe_bmK (K := K) rfl PySem.F.plainAttrs_list PySem.F.slot_list_append PySem.F.type_list_append mt_append (pv 17) (pa_cons (LamY.pe_lamS (T := [(Pt, lamQ)]) TB rfl (List.mem_singleton.mpr rfl) (fun p hp _ => by rw [List.mem_singleton.mp hp]; rfl) (LamY.LamD.free (LamY.lamD_by (N := ["_law_script", "_law_state", "_law_turn", "_law_works_here", "_law_places", "_law_place", "_law_parts", "_law_k", "_law_handed", "_law_found", "_law_delays", "_law_work", "_law_pats", "_law_many", "_law_odd_here", "_law_bad", "_law_window", "_law_some"]) (bs := []) (show LamY.lamDB ["_law_script", "_law_state", "_law_turn", "_law_works_here", "_law_places", "_law_place", "_law_parts", "_law_k", "_law_handed", "_law_found", "_law_delays", "_law_work", "_law_pats", "_law_many", "_law_odd_here", "_law_bad", "_law_window", "_law_some"] (C8.fnScope s_law) _ [] = true by decide +kernel))) rfl) pa_nil)))
      (pss_cons (ps_if (pt_cmpR (r := rNeD K) (op_neD hr.units) (LamY.pe_lcI (own := [("_law_work", 11)]) (g := gName 11) rfl nd (pi_list (pv 17)) (blkOk_by (N := ["_law_script", "_law_state", "_law_turn", "_law_works_here", "_law_places", "_law_place", "_law_parts", "_law_k", "_law_handed", "_law_found", "_law_delays", "_law_work", "_law_pats", "_law_many", "_law_odd_here", "_law_bad", "_law_window", "_law_some"]) (sc := C8.fnScope s_law) (by decide +kernel)) (fun _ _ _ _ _ => pg_name (i := 11) nd rfl (Or.inl rfl)) (fun pins σ s H C cl fp I hfp => pts_one (pt_cmpR op_ne (LamY.pe_kindB (k := 6) (TT := TKind K CD cs) (alts := [(lam1.1, lam1.2.1, lam1.2.2, _), (lam2.1, lam2.2.1, lam2.2.2, _), (lam3.1, lam3.2.1, lam3.2.2, _)]) I hfp (LamY.all3 (LamY.LamOk.mk (LamY.lamD_by (show LamY.lamDB ["_law_script", "_law_state", "_law_turn", "_law_works_here", "_law_places", "_law_place", "_law_parts", "_law_k", "_law_handed", "_law_found", "_law_delays", "_law_work", "_law_pats", "_law_many", "_law_odd_here", "_law_bad", "_law_window", "_law_some"] (C8.fnScope s_law) lam1.2.2 [] = true by decide +kernel)) (fun _ _ _ _ _ _ => rfl) (fun A outer s H E f c' hr2 => pe_cX g_fewest hr2 (by first | decide | exact Nat.le_refl _ | omega) (by rfl) (fun σ => passAt (takes_of rfl rfl rfl rfl) σ) (pa_cons (pv 16) (pa_cons (pv 15) pa_nil)))) (LamY.LamOk.mk (LamY.lamD_by (show LamY.lamDB ["_law_script", "_law_state", "_law_turn", "_law_works_here", "_law_places", "_law_place", "_law_parts", "_law_k", "_law_handed", "_law_found", "_law_delays", "_law_work", "_law_pats", "_law_many", "_law_odd_here", "_law_bad", "_law_window", "_law_some"] (C8.fnScope s_law) lam2.2.2 [] = true by decide +kernel)) (fun _ _ _ _ _ _ => rfl) (fun A outer s H E f c' hr2 => pe_cX g_levels_from hr2 (by first | decide | exact Nat.le_refl _ | omega) (by rfl) (fun σ => passAt (takes_of rfl rfl rfl rfl) σ) (pa_cons (pv 16) (pa_cons (pv 15) (pa_cons pe_int pa_nil))))) (LamY.LamOk.mk (LamY.lamD_by (show LamY.lamDB ["_law_script", "_law_state", "_law_turn", "_law_works_here", "_law_places", "_law_place", "_law_parts", "_law_k", "_law_handed", "_law_found", "_law_delays", "_law_work", "_law_pats", "_law_many", "_law_odd_here", "_law_bad", "_law_window", "_law_some"] (C8.fnScope s_law) lam3.2.2 [] = true by decide +kernel)) (fun _ _ _ _ _ _ => rfl) (fun A outer s H E f c' hr2 => pe_cX g_shown hr2 (by first | decide | exact Nat.le_refl _ | omega) (by rfl) (fun σ => passAt (takes_of rfl rfl rfl rfl) σ) (pa_cons (pv 16) (pa_cons (pv 15) (pa_cons pe_int pa_nil)))))) (by rfl) Dk.mgf Dk.kp lkk hck bk sc_law_kind rfl (Or.inl rfl) (kind_gives R) hr (pa_cons (pv 11) pa_nil)) pe_str (nomark _))) (fun _ _ _ _ _ => (pv 11))) (pe_lst pa_nil) (nomark _)) (pss_one (ps_ret pe_bl)) pss_nil)
      (pss_cons (ps_set (i := 16) nd rfl (Or.inr rfl) (pe_tup (pa_cons pe_int (pa_cons pe_int pa_nil))))
      (pss_one (ps_if (pt_cmpR (r := rNeD K) (op_neD hr.units) (LamY.pe_lcI (own := [("_law_work", 11)]) (g := gName 11) rfl nd (pi_list (pv 17)) (blkOk_by (N := ["_law_script", "_law_state", "_law_turn", "_law_works_here", "_law_places", "_law_place", "_law_parts", "_law_k", "_law_handed", "_law_found", "_law_delays", "_law_work", "_law_pats", "_law_many", "_law_odd_here", "_law_bad", "_law_window", "_law_some"]) (sc := C8.fnScope s_law) (by decide +kernel)) (fun _ _ _ _ _ => pg_name (i := 11) nd rfl (Or.inl rfl)) (fun pins σ s H C cl fp I hfp => pts_one (pt_cmpR op_ne (LamY.pe_kindB (k := 6) (TT := TKind K CD cs) (alts := [(lam1.1, lam1.2.1, lam1.2.2, _), (lam2.1, lam2.2.1, lam2.2.2, _), (lam3.1, lam3.2.1, lam3.2.2, _)]) I hfp (LamY.all3 (LamY.LamOk.mk (LamY.lamD_by (show LamY.lamDB ["_law_script", "_law_state", "_law_turn", "_law_works_here", "_law_places", "_law_place", "_law_parts", "_law_k", "_law_handed", "_law_found", "_law_delays", "_law_work", "_law_pats", "_law_many", "_law_odd_here", "_law_bad", "_law_window", "_law_some"] (C8.fnScope s_law) lam1.2.2 [] = true by decide +kernel)) (fun _ _ _ _ _ _ => rfl) (fun A outer s H E f c' hr2 => pe_cX g_fewest hr2 (by first | decide | exact Nat.le_refl _ | omega) (by rfl) (fun σ => passAt (takes_of rfl rfl rfl rfl) σ) (pa_cons (pv 16) (pa_cons (pv 15) pa_nil)))) (LamY.LamOk.mk (LamY.lamD_by (show LamY.lamDB ["_law_script", "_law_state", "_law_turn", "_law_works_here", "_law_places", "_law_place", "_law_parts", "_law_k", "_law_handed", "_law_found", "_law_delays", "_law_work", "_law_pats", "_law_many", "_law_odd_here", "_law_bad", "_law_window", "_law_some"] (C8.fnScope s_law) lam2.2.2 [] = true by decide +kernel)) (fun _ _ _ _ _ _ => rfl) (fun A outer s H E f c' hr2 => pe_cX g_levels_from hr2 (by first | decide | exact Nat.le_refl _ | omega) (by rfl) (fun σ => passAt (takes_of rfl rfl rfl rfl) σ) (pa_cons (pv 16) (pa_cons (pv 15) (pa_cons pe_int pa_nil))))) (LamY.LamOk.mk (LamY.lamD_by (show LamY.lamDB ["_law_script", "_law_state", "_law_turn", "_law_works_here", "_law_places", "_law_place", "_law_parts", "_law_k", "_law_handed", "_law_found", "_law_delays", "_law_work", "_law_pats", "_law_many", "_law_odd_here", "_law_bad", "_law_window", "_law_some"] (C8.fnScope s_law) lam3.2.2 [] = true by decide +kernel)) (fun _ _ _ _ _ _ => rfl) (fun A outer s H E f c' hr2 => pe_cX g_shown hr2 (by first | decide | exact Nat.le_refl _ | omega) (by rfl) (fun σ => passAt (takes_of rfl rfl rfl rfl) σ) (pa_cons (pv 16) (pa_cons (pv 15) (pa_cons pe_int pa_nil)))))) (by rfl) Dk.mgf Dk.kp lkk hck bk sc_law_kind rfl (Or.inl rfl) (kind_gives R) hr (pa_cons (pv 11) pa_nil)) pe_str (nomark _))) (fun _ _ _ _ _ => (pv 11))) (pe_lst pa_nil) (nomark _)) (pss_one (ps_ret pe_bl)) pss_nil)))))))))))))))))))))))
      (pss_one (ps_ret pe_bl)))), ?_⟩
    walk_at "go"
    refine ⟨noT H, sc, ns, rfl, noT_list hsc, noT_same H, hl, fun H1 S nS s1 d1 => ?_⟩
    have tb1 : LamX.Tabs [(Pt, lamQ)] H1 := fun p hp => by
      rw [List.mem_singleton.mp hp]
      exact .nil (s1 _ _ hT)
    walk_at "go"
    refine w_range (by decide) (by decide) (fun i σ H' => ∃ v2 v3 v4 v5 v6 v7 v8 v9 v10 v11 v12 v13 v14 v15 v16 v17 : Option V, σ = [some (.ref sc), some (.ref S), v2, v3, v4, v5, v6, v7, v8, v9, v10, v11, v12, v13, v14, v15, v16, v17] ∧ Dst K (noT H) H' S ∧ LamX.Tabs [(Pt, lamQ)] H') ?_ ?_ ?_
    · exact ⟨_, _, _, _, _, _, _, _, _, _, _, _, _, _, _, _, rfl, d1, tb1⟩
    · clear d1 tb1
      rintro i σ H0 hi' ⟨v2, v3, v4, v5, v6, v7, v8, v9, v10, v11, v12, v13, v14, v15, v16, v17, rfl, d, tb⟩
      walk_at "go"
      refine ⟨noT H, S, rfl, d, fun H2 L zs f2 d2 wk2 okz => ?_⟩
      have zl := okz.2.1
      have zp := okz.1
      have b2 : Bw K H S L Pt zs H2 [] := ⟨d2, tabs_frm tb d f2, wk2, Live.nil, fun p hp => nomatch hp⟩
      clear d tb f2 d2 wk2
      walk_at "go"
      refine g_len (.inl (SqL.of b2.wk.at_)) ?_
      rw [List.length_map]
      walk_at "go"
      refine w_lcRange (by omega) (by omega) (fun D j H' => Bw K H S L Pt zs H' [] ∧ ∃ acc : List Nat, D ≠ S ∧ D ≠ L ∧ noT H D = none ∧ H' D = some (.lst (acc.map fun k => V.int (nZ k))) ∧ acc.Sublist (List.range j)) (fun D hD => ⟨(b2.new hD).cut (fun _ h => nomatch h), [], b2.d.ne hD, (fun z => by rw [z, b2.wk.at_] at hD; cases hD), b2.d.fresh hD, upd_same, List.nil_sublist _⟩) (fun D j H' hD hj h => ?_) (fun A' H3 hA' h => ?_)
      · obtain ⟨b3, acc, nD, nL, fD, eD, sub⟩ := h
        have al : acc.length ≤ 10 := by have := sub.length_le; rw [List.length_range] at this; omega
        walk_at "go"
        refine ⟨rfl, ?_⟩
        walk_at "go"
        refine use_drawn (n := 3) b3.d (by decide) (by decide) fun H4 v f4 d4 v0 v1 => ?_
        have b4 := b3.frm f4 d4
        have eD4 := f4 _ _ nD eD
        walk_at "go"
        refine g_ite (fun hv => ?_) (fun hv => ?_)
        · walk_at "go"
          exact ⟨_, eD4, by rw [sizeLine_eq, List.length_map]; omega, b4.mut0 nD fD nL eD4, acc ++ [j], nD, nL, fD, by rw [upd_same, List.map_append]; rfl, by rw [List.range_succ]; exact sub.append (List.Sublist.refl [j])⟩
        · exact ⟨b4, acc, nD, nL, fD, eD4, by rw [List.range_succ]; exact sub.trans (List.sublist_append_left _ _)⟩
      · obtain ⟨b3, acc, nD, nL, fD, eD, sub⟩ := h
        have ez : (zs.length : Int).toNat = zs.length := by omega
        rw [ez] at sub
        have al : acc.length ≤ 10 := by have := sub.length_le; rw [List.length_range] at this; omega
        have ea : (acc.map fun k => V.int (nZ k)) = (acc.map nZ).map V.int := by rw [List.map_map]; rfl
        rw [ea] at eD
        have b4 := b3.add nD eD
        clear b3 eD
        walk_at "go"
        intro R0 hR0
        have b5 := b4.new (o := .lst []) hR0
        generalize upd H3 R0 (.lst []) = H4 at b5
        clear b4
        walk_at "go"
        refine g_len (.inl (SqL.of b5.wk.at_)) ?_
        rw [List.length_map]
        walk_at "go"
        refine w_range (by omega) (by omega) (fun j σ H' => ∃ (PR : Addr) (vs : List V) (v7 : Option V), σ = [some (.ref sc), some (.ref S), some (.int i), some (.ref L), some (.ref A'), v5, some (.ref PR), v7, v8, v9, v10, v11, v12, v13, v14, v15, v16, v17] ∧
          Bw K H S L Pt zs H' [(A', .lst ((acc.map nZ).map V.int))] ∧ H' PR = some (.lst vs) ∧ PlAs H' vs (pw (acc.map nZ) 0 ((zs.map (·.2)).take j))) ?_ ?_ ?_
        · exact ⟨R0, [], _, rfl, b5.cut (fun p hp => List.mem_cons_of_mem _ hp), b5.lv.get 0 rfl, .nil⟩
        · clear b5
          rintro j σ H5 hj ⟨PR, vs, v7, rfl, b5, ePR, pa⟩
          have hj' : j < zs.length := by omega
          have hz : zs[j]? = some zs[j] := List.getElem?_eq_getElem hj'
          generalize zs[j] = z at hz
          have zm := List.mem_of_getElem? hz
          have hz2 : (zs.map (·.2))[j]? = some z.2 := by rw [List.getElem?_map, hz]; rfl
          have pt := pw_take (acc.map nZ) hz2
          have vl : vs.length ≤ 20 := by
            rw [pa.len]
            have := pw_len (acc.map nZ) ((zs.map (·.2)).take j) 0
            have h2 : ((zs.map (·.2)).take j).length ≤ (zs.map (·.2)).length := by rw [List.length_take]; omega
            rw [List.length_map] at h2
            omega
          walk_at "go"
          intro t1 ht1
          have s6 := same_new (o := .tup [.str "work"]) ht1
          have e6 := upd_same (H := H5) (a := t1) (o := .tup [.str "work"])
          generalize upd H5 t1 (.tup [.str "work"]) = H6 at s6 e6
          walk_at "go"
          refine g_ixL (SqL.of (s6 _ _ b5.wk.at_)) (at_of (j := j) (v := .ref z.1) rfl (by rw [List.getElem?_map, hz]; rfl)) ?_
          refine ⟨t1, z.1, [.str "work"], [.int z.2.1, .int z.2.2], rfl, rfl, SqT.of e6, SqT.of (s6 _ _ (b5.wk.own z zm).1), List.cons_ne_nil _ _, by show 3 ≤ sizeLine; decide, (fun h => (List.cons_ne_nil _ _ h).elim), fun _ t2 ht2 => ?_⟩
          have s7 := s6.trans (same_new (o := .tup [.str "work", .int z.2.1, .int z.2.2]) ht2)
          have e7 : upd H6 t2 (.tup ([.str "work"] ++ [.int z.2.1, .int z.2.2])) t2 = some (.tup [.str "work", .int z.2.1, .int z.2.2]) := upd_same
          rw [show ([V.str "work"] ++ [V.int z.2.1, V.int z.2.2]) = [V.str "work", V.int z.2.1, V.int z.2.2] from rfl] at e7 ⊢
          generalize upd H6 t2 (.tup [.str "work", .int z.2.1, .int z.2.2]) = H7 at s7 e7
          walk_at "go"
          intro l8 hl8
          have x8 := same_new (o := .lst [.ref t2]) hl8
          have s8 := s7.trans x8
          have e8 := upd_same (H := H7) (a := l8) (o := .lst [.ref t2])
          have w8 := x8 _ _ e7
          generalize upd H7 l8 (.lst [.ref t2]) = H8 at s8 e8 x8 w8
          refine ⟨PR, l8, _, _, rfl, rfl, s8 _ _ ePR, e8, by rw [sizeLine_eq, List.length_singleton]; omega, fun P9 hP9 => ?_⟩
          have x9 := same_new (o := .lst (vs ++ [.ref t2])) hP9
          have s9 := s8.trans x9
          have e9 := upd_same (H := H8) (a := P9) (o := .lst (vs ++ [.ref t2]))
          have w9 := x9 _ _ w8
          generalize upd H8 P9 (.lst (vs ++ [.ref t2])) = H9 at s9 e9 x9 w9
          walk_at "go"
          intro t10 ht10
          have x10 := same_new (o := .tup [.str "pat"]) ht10
          have s10 := s9.trans x10
          have e10 := upd_same (H := H9) (a := t10) (o := .tup [.str "pat"])
          have w10 := x10 _ _ w9
          have r10 := x10 _ _ e9
          generalize upd H9 t10 (.tup [.str "pat"]) = J0 at s10 e10 x10 w10 r10
          walk_at "go"
          intro l11 hl11
          have x11 := same_new (o := .lst [.ref t10]) hl11
          have s11 := s10.trans x11
          have e11 := upd_same (H := J0) (a := l11) (o := .lst [.ref t10])
          have y11 := x11 _ _ e10
          have w11 := x11 _ _ w10
          have r11 := x11 _ _ r10
          generalize upd J0 l11 (.lst [.ref t10]) = J1 at s11 e11 x11 w11 r11 y11
          clear s10 e10 x10 w10 r10 s9 e9 x9 w9 s8 e8 x8 w8 s7 e7 s6 e6 x11
          walk_at "go"
          have b11 := b5.same s11
          refine ⟨A', (acc.map nZ).map V.int, rfl, .inl (SqL.of (b11.lv.get 0 rfl)), rfl, flat_ints _, ?_⟩
          rw [if_neg (by decide), inV_int]
          refine .inr ⟨_, rfl, ?_⟩
          have pa11 := PlAs_keep (keepT_same s11) _ _ pa
          by_cases hin : (j : Int) ∈ acc.map nZ
          · rw [if_pos hin] at pt
            rw [decide_eq_true hin]
            refine ⟨l11, 1, _, rfl, rfl, e11, by decide, by decide, (by show 1 ≤ sizeLine; decide), fun l12 hl12 => ?_⟩
            have x12 := same_new (o := .lst (List.replicate (1 : Int).toNat [V.ref t10]).flatten) hl12
            refine ⟨P9, l12, _, _, rfl, rfl, x12 _ _ r11, upd_same, by rw [sizeLine_eq, List.length_append, List.length_singleton]; show _ + 1 ≤ _; omega, fun P13 hP13 => ?_⟩
            have x13 := x12.trans (same_new (o := .lst ((vs ++ [.ref t2]) ++ (List.replicate (1 : Int).toNat [V.ref t10]).flatten)) hP13)
            have pa13 := PlAs.snoc (PlAs.snoc (PlAs_keep (keepT_same x13) _ _ pa11) (.work (x13 _ _ w11))) (.pat (x13 _ _ y11))
            walk_at "go"
            refine ⟨P13, vs ++ [.ref t2] ++ [.ref t10], _, rfl, b11.same x13, ?_, ?_⟩
            · rw [upd_same, show (List.replicate (1 : Int).toNat [V.ref t10]).flatten = [V.ref t10] from rfl]
            · have ea : ∀ (l : List Pl) (a b : Pl), l ++ [a, b] = (l ++ [a]) ++ [b] := fun l a b => by rw [List.append_assoc]; rfl
              rw [pt, ea]; exact pa13
          · rw [if_neg hin] at pt
            rw [decide_eq_false hin]
            refine ⟨l11, 0, _, rfl, rfl, e11, by decide, by decide, (by show 0 ≤ sizeLine; decide), fun l12 hl12 => ?_⟩
            have x12 := same_new (o := .lst (List.replicate (0 : Int).toNat [V.ref t10]).flatten) hl12
            refine ⟨P9, l12, _, _, rfl, rfl, x12 _ _ r11, upd_same, by rw [sizeLine_eq, List.length_append, List.length_singleton]; show _ + 0 ≤ _; omega, fun P13 hP13 => ?_⟩
            have x13 := x12.trans (same_new (o := .lst ((vs ++ [.ref t2]) ++ (List.replicate (0 : Int).toNat [V.ref t10]).flatten)) hP13)
            have pa13 := PlAs.snoc (PlAs_keep (keepT_same x13) _ _ pa11) (.work (x13 _ _ w11))
            walk_at "go"
            refine ⟨P13, vs ++ [.ref t2], _, rfl, b11.same x13, ?_, ?_⟩
            · rw [upd_same, show (List.replicate (0 : Int).toNat [V.ref t10]).flatten = [] from rfl, List.append_nil]
            · rw [pt]; exact pa13
        · clear b5
          rintro σ H5 ⟨PR, vs, v7, rfl, b5, ePR, pa⟩
          rw [ez, show (zs.map (·.2)).take zs.length = zs.map (·.2) from List.take_of_length_le (by rw [List.length_map]; exact Nat.le_refl _)] at pa
          have zwl : (zs.map (·.2)).length = zs.length := List.length_map ..
          have pwl := pw_len (acc.map nZ) (zs.map (·.2)) 0
          walk_at "go"
          refine g_listOf (SqL.of b5.wk.at_) ?_
          intro h1 hh1
          have s6 := same_new (o := .lst (zs.map fun z => V.ref z.1)) hh1
          have e6 := upd_same (H := H5) (a := h1) (o := .lst (zs.map fun z => V.ref z.1))
          generalize upd H5 h1 (.lst (zs.map fun z => V.ref z.1)) = H6 at s6 e6
          clear hh1
          walk_at "go"
          refine g_listOf (SqL.of (s6 _ _ (b5.lv.get 0 rfl))) ?_
          intro h2 hh2
          have x7 := same_new (o := .lst ((acc.map nZ).map V.int)) hh2
          have s7 := s6.trans x7
          have e7 := upd_same (H := H6) (a := h2) (o := .lst ((acc.map nZ).map V.int))
          have y7 := x7 _ _ e6
          generalize upd H6 h2 (.lst ((acc.map nZ).map V.int)) = H7 at x7 s7 e7 y7
          clear x7 hh2 s6 e6
          walk_at "go"
          intro Hd hHd
          have x8 := same_new (o := .tup [.ref h1, .ref h2]) hHd
          have s8 := s7.trans x8
          have e8 := upd_same (H := H7) (a := Hd) (o := .tup [.ref h1, .ref h2])
          have y8 := x8 _ _ e7
          have z8 := x8 _ _ y7
          generalize upd H7 Hd (.tup [.ref h1, .ref h2]) = H8 at x8 s8 e8 y8 z8
          clear x8 hHd s7 e7 y7
          walk_at "go"
          refine g_ixT (SqT.of e8) rfl ?_
          walk_at "go"
          refine g_ixT (SqT.of e8) rfl ?_
          refine ⟨h1, h2, zs, acc.map nZ, rfl, ⟨z8, fun z hz => s8 _ _ (b5.wk.own z hz).1⟩, SqL.of y8, by rw [List.length_map]; omega, fun _ _ H9 Fo x9 pf => ?_, fun bad => (bad ⟨okz, ris_range sub⟩).elim⟩
          have s9 := s8.trans x9
          have e9 := x9 _ _ e8
          have y9 := x9 _ _ y8
          have z9 := x9 _ _ z8
          clear x9 s8 e8 y8 z8
          walk_at "go"
          refine g_tupOf (SqL.of (s9 _ _ ePR)) fun t10 ht10 => ?_
          have x10 := same_new (o := .tup vs) ht10
          have e10 := upd_same (H := H9) (a := t10) (o := .tup vs)
          generalize upd H9 t10 (.tup vs) = J0 at x10 e10
          walk_at "go"
          intro t11 ht11
          have x11 := x10.trans (same_new (o := .tup [.str "row", .ref t10]) ht11)
          have e11 := same_new (o := .tup [.str "row", .ref t10]) ht11 _ _ e10
          have y11 := upd_same (H := J0) (a := t11) (o := .tup [.str "row", .ref t10])
          generalize upd J0 t11 (.tup [.str "row", .ref t10]) = J1 at x11 e11 y11
          clear x10 e10 ht10 ht11
          have s11 := s9.trans x11
          have pd : PlA J1 (.ref t11) (.row (pw (acc.map nZ) 0 (zs.map (·.2)))) := .row y11 e11 (PlAs_keep (keepT_same s11) _ _ pa)
          walk_at "go"
          refine use_same (n := 3) (row_dp (PlA_keep (keepT_same x11) _ _ pf) (pw_fl _ _ _)) (row_dp pd (pw_fl _ _ _)) (row_okd (by omega)) fun J2 x12 => ?_
          have x912 := x11.trans x12
          have s12 := s9.trans x912
          have pf12 := PlA_keep (keepT_same x912) _ _ pf
          have e12 := x912 _ _ e9
          have y12 := x912 _ _ y9
          have z12 := x912 _ _ z9
          clear x12 x912 x11 s11 e11 y11 pd pf s9 e9 y9 z9
          walk_at "go"
          intro t13 ht13
          have x13 := same_new (o := .tup [.ref L, .ref A']) ht13
          have s13 := s12.trans x13
          have b13 := b5.same s13
          refine g_neHand (x13 _ _ e12) upd_same ⟨x13 _ _ z12, fun z hz => (b13.wk.own z hz).1⟩ b13.wk.wk (SqL.of (x13 _ _ y12)) (SqL.of (b13.lv.get 0 rfl)) ?_
          have pf13 := PlA_keep (keepT_same x13) _ _ pf12
          generalize upd J2 t13 (.tup [.ref L, .ref A']) = J3 at x13 s13 b13 pf13
          clear x13 s12 e12 y12 z12 pf12 ht13
          walk_at "go"
          refine w_lcList (SqL.of b13.wk.at_) (fun D k H' => Same J3 H' ∧ H' D = some (.lst (((zs.take k).map fun z => z.2.1).map V.int))) (fun D hD => ⟨same_new hD, upd_same⟩) (fun D k H' hD _ h => SqL.of (h.1 _ _ b13.wk.at_)) (fun D k y H' hD hy h => ?_) (fun De J4 hDe h => ?_)
          · obtain ⟨z, hz, rfl⟩ := zs_at hy
            walk_at "go"
            refine ⟨rfl, ?_⟩
            walk_at "go"
            refine g_ixT (SqT.of (h.1 _ _ (b13.wk.own z (List.mem_of_getElem? hz)).1)) rfl ?_
            exact ⟨_, h.2, by rw [sizeLine_eq, List.length_map, List.length_map]; have : (zs.take k).length ≤ zs.length := by { rw [List.length_take]; omega }; omega, Wd.Same.mut h.1 hD, by rw [upd_same, take_snocM _ hz, List.map_append]; rfl⟩
          obtain ⟨x14, eDe⟩ := h
          rw [List.length_map, List.take_length] at eDe
          have el : (zs.map fun z => z.2.1) = leasts (zs.map (·.2)) := by unfold leasts; rw [List.map_map]; rfl
          rw [el] at eDe
          have lel : (leasts (zs.map (·.2))).length = zs.length := by unfold leasts; rw [List.length_map, List.length_map]
          have b14 := b13.same x14
          have pf14 := PlA_keep (keepT_same x14) _ _ pf13
          clear b13 pf13 x14
          walk_at "go"
          refine w_lcList (xs := (acc.map nZ).map V.int) (SqL.of (b14.lv.get 0 rfl)) (fun D k H' => Same J4 H' ∧ H' D = some (.lst (((acc.take k).map fun m => ((leasts (zs.map (·.2))).take (m + 1)).sum).map V.int))) (fun D hD => ⟨same_new hD, upd_same⟩) (fun D k H' hD _ h => SqL.of (h.1 _ _ (b14.lv.get 0 rfl))) (fun D k y H' hD hy h => ?_) (fun Pa J5 hPa h => ?_)
          · obtain ⟨y', hy', rfl⟩ := map_at2 hy
            obtain ⟨m, hm, rfl⟩ : ∃ m, acc[k]? = some m ∧ y' = nZ m := by
              rw [List.getElem?_map] at hy'
              cases hq : acc[k]? with
              | none => rw [hq] at hy'; cases hy'
              | some m => rw [hq] at hy'; exact ⟨m, rfl, (Option.some.inj hy').symm⟩
            walk_at "go"
            refine ⟨rfl, ?_⟩
            walk_at "go"
            refine g_slL (SqL.of (h.1 _ _ eDe)) fun l hl => ?_
            rw [show nZ m + 1 = ((m + 1 : Nat) : Int) from rfl, cut_any]
            have xl := same_new (o := .lst (((leasts (zs.map (·.2))).take (m + 1)).map V.int)) hl
            walk_at "go"
            refine g_sum (SqL.of upd_same) ?_
            refine ⟨_, xl _ _ h.2, by rw [sizeLine_eq, List.length_map, List.length_map]; have : (acc.take k).length ≤ acc.length := by { rw [List.length_take]; omega }; omega, Wd.Same.mut (h.1.trans xl) hD, by rw [upd_same, take_snocM _ hm, List.map_append]; rfl⟩
          obtain ⟨x15, ePa⟩ := h
          rw [List.length_map, List.length_map, List.take_length, ← pats_of (by rw [zwl]; exact sub)] at ePa
          have eDe5 := x15 _ _ eDe
          have b15 := b14.same x15
          have pf15 := PlA_keep (keepT_same x15) _ _ pf14
          clear b14 pf14 x15 eDe hDe hPa
          have run := run_pw (acc.map nZ) (zs.map (·.2)) 0 0 fun z hz => by
            obtain ⟨y, hy, rfl⟩ := List.mem_map.mp hz
            exact (okz.2.2 y hy).2.1
          rw [Int.zero_add] at run
          have run2 : rn (.row (pw (acc.map nZ) 0 (zs.map (·.2)))) (leasts (zs.map (·.2))) 0 = some (patsL (acc.map nZ) 0 (zs.map (·.2)) 0, [], (leasts (zs.map (·.2))).sum) := by
            simp only [rn]
            exact run
          have pls : (patsL (acc.map nZ) 0 (zs.map (·.2)) 0).length ≤ 100 := by
            rw [pats_of (by rw [zwl]; exact sub), List.length_map]; omega
          walk_at "go"
          refine ⟨.ref Fo, _, De, _, _, _, rfl, pf15, ⟨pw_pos _ _ (by omega), by omega, pw_ok _ _ _ fun z hz => ?_⟩, ?_, eDe5, run2, by omega, fun J6 r PA x16 _ er ePA => ?_⟩
          · obtain ⟨y, hy, rfl⟩ := List.mem_map.mp hz
            exact okz.2.2 y hy
          · have := pw_cnt (acc.map nZ) (zs.map (·.2)) 0
            show 1 + cnts _ ≤ 30
            omega
          have b16 := b15.same x16
          have eDe6 := x16 _ _ eDe5
          have ePa6 := x16 _ _ ePa
          clear b15 pf15 x16 eDe5 ePa run run2
          walk_at "go"
          refine g_sum (SqL.of eDe6) ?_
          walk_at "go"
          intro t17 ht17
          have x17 := same_new (o := .tup [.ref Pa, .int (leasts (zs.map (·.2))).sum]) ht17
          walk_at "go"
          refine use_same (n := 3) (told_dp (x17 _ _ er) (x17 _ _ ePA)) (told_dp upd_same (x17 _ _ ePa6)) (OkD.up (told_okd (by omega))) fun J7 x18 => ?_
          have b18 := b16.same (x17.trans x18)
          clear b16 x17 x18 er ePA ePa6 eDe6
          walk_at "go"
          refine g_len (.inl (SqL.of b18.wk.at_)) ?_
          rw [List.length_map]
          have b18 := b18.cut (Lv' := []) fun _ h => nomatch h
          walk_at "go"
          intro o1 ho1
          have b19 := b18.new (o := .lst [.int 0, .int 0]) ho1
          generalize upd J7 o1 (.lst [.int 0, .int 0]) = K0 at b19
          clear b18 ho1
          walk_at "go"
          intro o2 ho2
          have b20 := b19.new (o := .lst [.int (zs.length : Nat)]) ho2
          generalize upd K0 o2 (.lst [.int (zs.length : Nat)]) = K1 at b20
          clear b19 ho2
          walk_at "go"
          intro o3 ho3
          have b21 := b20.new (o := .lst [.int (0 - 1)]) ho3
          generalize upd K1 o3 (.lst [.int (0 - 1)]) = K2 at b21
          clear b20 ho3
          walk_at "go"
          intro o4 ho4
          have b22 := b21.new (o := .lst [.int 1, .int 0]) ho4
          generalize upd K2 o4 (.lst [.int 1, .int 0]) = K3 at b22
          clear b21 ho4
          walk_at "go"
          refine ⟨_, S, (zs.length : Int) - 1, rfl, b22.d, fun K4 fa fK dK fb => ?_⟩
          have b23 := b22.frm fK dK
          clear b22 fK dK
          walk_at "go"
          intro o5 ho5
          have b24 := b23.new (o := .lst [.int fa]) ho5
          generalize upd K4 o5 (.lst [.int fa]) = K5 at b24
          clear b23 ho5
          walk_at "go"
          intro o6 ho6
          have b25 := b24.new (o := .lst [.int 0, .int ((zs.length : Int) + 3)]) ho6
          generalize upd K5 o6 (.lst [.int 0, .int ((zs.length : Int) + 3)]) = K6 at b25
          clear b24 ho6
          walk_at "go"
          intro o7 ho7
          have b26 := b25.new (o := .lst [.ref o1, .ref o2, .ref o3, .ref o4, .ref o5, .ref o6]) ho7
          generalize upd K6 o7 (.lst [.ref o1, .ref o2, .ref o3, .ref o4, .ref o5, .ref o6]) = K7 at b26
          clear b25 ho7
          walk_at "go"
          refine use_drawn (n := 6) b26.d (by decide) (by decide) fun K8 y fK dK y0 y1 => ?_
          have b27 := b26.frm fK dK
          clear b26 fK dK
          obtain ⟨x, hx, hx2⟩ := atI_mem (xs := [.ref o1, .ref o2, .ref o3, .ref o4, .ref o5, .ref o6]) y0 y1
          refine g_ixL (SqL.of (b27.lv.get 0 rfl)) hx2 ?_
          obtain ⟨Od, os, rfl, eOd, nOd, nris, ol⟩ : ∃ (Od : Addr) (os : List Int), x = V.ref Od ∧ K8 Od = some (.lst (os.map V.int)) ∧ Od ≠ S ∧ ¬ Ris zs.length (-1) os ∧ os.length ≤ 100 := by
            simp only [List.mem_cons, List.not_mem_nil, or_false] at hx
            rcases hx with rfl | rfl | rfl | rfl | rfl | rfl
            · exact ⟨_, [0, 0], rfl, b27.lv.get 6 rfl, b27.lv.ne 6 rfl, (fun z => by have := z.2.2.1; omega), by decide⟩
            · exact ⟨_, [zs.length], rfl, b27.lv.get 5 rfl, b27.lv.ne 5 rfl, (fun z => by have := z.2.1; omega), (by show 1 ≤ 100; decide)⟩
            · exact ⟨_, [0 - 1], rfl, b27.lv.get 4 rfl, b27.lv.ne 4 rfl, (fun z => by have := z.1; omega), (by show 1 ≤ 100; decide)⟩
            · exact ⟨_, [1, 0], rfl, b27.lv.get 3 rfl, b27.lv.ne 3 rfl, (fun z => by have := z.2.2.1; omega), by decide⟩
            · exact ⟨_, [fa], rfl, b27.lv.get 2 rfl, b27.lv.ne 2 rfl, (fun z => by have := z.1; have := z.2.1; omega), (by show 1 ≤ 100; decide)⟩
            · exact ⟨_, [0, zs.length + 3], rfl, b27.lv.get 1 rfl, b27.lv.ne 1 rfl, (fun z => by have := z.2.2.2.1; omega), (by show 2 ≤ 100; decide)⟩
          have b28 := (b27.cut (Lv' := []) fun _ h => nomatch h).add nOd eOd
          clear b27 hx hx2 eOd
          walk_at "go"
          refine ⟨_, S, L, zs, rfl, b28.d, b28.wk, okz, fun K9 O ys fK dK wo nok => ?_⟩
          have b29 := b28.frm fK dK
          clear b28 fK dK
          walk_at "go"
          refine g_lam b29.tb fun M1 xm tbm => ?_
          have b30 := b29.ext xm tbm
          have wo30 := wo.ext xm
          clear b29 wo xm tbm
          refine g_kind ?_
          walk_at "go"
          refine ⟨L, Od, zs, os, rfl, b30.wk.wk, SqL.of (b30.lv.get 0 rfl), ol, fun _ ris => (nris ris).elim, fun _ => ⟨3, CB, "BadWorks", rfl, rfl, RB, rfl, fun M2 x31 => ?_⟩⟩
          have b31 := b30.same x31
          have wo31 := wo30.frm (.of x31)
          clear b30 wo30 x31
          walk_at "go"
          refine LamY.g_lamD b31.tb fun M3 fL cL DL xm tbm nf hf hco hD => ?_
          have b32 := b31.ext xm tbm
          have wo32 := wo31.ext xm
          clear b31 wo31 xm tbm nf
          walk_at "go"
          refine ⟨fL, cL, DL, rfl, hco, ?_⟩
          refine g_kind ?_
          refine ⟨hf, hD, ?_⟩
          walk_at "go"
          intro l33 hl33
          have x33 := same_new (o := .lst []) hl33
          have b33 := b32.same x33
          have wo33 := wo32.frm (.of x33)
          have e33 := upd_same (H := M3) (a := l33) (o := .lst [])
          generalize upd M3 l33 (.lst []) = M4 at x33 b33 wo33 e33
          clear b32 wo32 hf hD hco x33 hl33
          walk_at "go"
          refine ⟨O, l33, ys, [], rfl, wo33.wk, SqL.of e33, by decide, fun ok _ => (nok ok).elim, fun _ => ⟨3, CB, "BadWorks", rfl, rfl, RB, rfl, fun M5 x34 => ?_⟩⟩
          have b34 := b33.same x34
          have wo34 := wo33.frm (.of x34)
          clear b33 wo33 x34 e33
          walk_at "go"
          intro l35 hl35
          have x35 := same_new (o := .lst [.str "BadWorks", .str "BadWorks"]) hl35
          have e35 := upd_same (H := M5) (a := l35) (o := .lst [.str "BadWorks", .str "BadWorks"])
          generalize upd M5 l35 (.lst [.str "BadWorks", .str "BadWorks"]) = M6 at x35 e35
          walk_at "go"
          intro l36 hl36
          have x36 := same_new (o := .lst [.str "BadWorks"]) hl36
          have e36 := upd_same (H := M6) (a := l36) (o := .lst [.str "BadWorks"])
          have y36 := x36 _ _ e35
          generalize upd M6 l36 (.lst [.str "BadWorks"]) = M7 at x36 e36 y36
          walk_at "go"
          refine ⟨l36, 2, _, rfl, rfl, e36, by decide, by decide, (by show 2 ≤ sizeLine; decide), fun l37 hl37 => ?_⟩
          have x37 := same_new (o := .lst (List.replicate (2 : Int).toNat [V.str "BadWorks"]).flatten) hl37
          have b37 := b34.same ((x35.trans x36).trans x37)
          have wo37 := wo34.frm (.of ((x35.trans x36).trans x37))
          refine g_neStrs (xs := ["BadWorks", "BadWorks"]) (x37 _ _ y36) upd_same (by decide +kernel) ?_
          have b38 := b37.cut (Lv' := []) fun _ h => nomatch h
          generalize upd M7 l37 (.lst (List.replicate (2 : Int).toNat [V.str "BadWorks"]).flatten) = M8 at b38 wo37
          clear b34 wo34 b37 x35 x36 x37 e35 e36 y36 hl35 hl36 hl37
          walk_at "go"
          intro W hW
          have b39 := b38.new (o := .tup [.int 0, .int 9]) hW
          have wo39 := wo37.frm (.new (o := .tup [.int 0, .int 9]) hW)
          generalize upd M8 W (.tup [.int 0, .int 9]) = M9 at b39 wo39
          clear b38 wo37 hW
          walk_at "go"
          refine LamY.g_lamS b39.tb fun N1 f1 c1 xm tbm nf1 hf1 hc1 => ?_
          have b40 := b39.lam xm tbm nf1 hf1 LamY.lamO_ne hc1
          have wo40 := wo39.ext xm
          clear b39 wo39 xm tbm nf1 hf1 hc1
          walk_at "go"
          intro SL hSL
          have b41 := b40.same (same_new (o := .lst [.ref f1]) hSL)
          have wo41 := wo40.frm (.of (same_new (o := .lst [.ref f1]) hSL))
          have nSL := b40.d.ne hSL
          have fSL := b40.d.fresh hSL
          have lSL : SL ≠ L := fun z => by rw [z, b40.wk.at_] at hSL; cases hSL
          have oSL : SL ≠ O := fun z => by rw [z, wo40.at_] at hSL; cases hSL
          have eSL := upd_same (H := N1) (a := SL) (o := .lst [.ref f1])
          generalize upd N1 SL (.lst [.ref f1]) = N2 at b41 wo41 eSL
          clear b40 wo40 hSL
          walk_at "go"
          refine g_tyL eSL ?_
          walk_at "go"
          refine LamY.g_lamS b41.tb fun N3 f2 c2 xm tbm nf2 hf2 hc2 => ?_
          have b42 := b41.lam xm tbm nf2 hf2 LamY.lamO_ne hc2
          have wo42 := wo41.ext xm
          have eSL := xm _ _ eSL (fun _ z => nomatch z)
          clear b41 wo41 xm tbm nf2 hf2 hc2
          walk_at "go"
          refine g_append eSL (Nat.lt_of_le_of_lt (show _ ≤ 3 by show _ + 1 ≤ 3; exact Nat.le_of_ble_eq_true rfl) (by decide)) ?_
          have b43 := b42.put (o := .lst ([V.ref f1] ++ [.ref f2])) nSL fSL lSL eSL (fun p hp => by
            simp only [List.mem_cons, List.not_mem_nil, or_false] at hp
            rcases hp with rfl | rfl | rfl | rfl | rfl
            · exact lamO_nl
            · exact codeO_nl
            · exact lamO_nl
            · exact codeO_nl
            · exact fun _ z => nomatch z)
          have wo43 := wo42.put1 (o := .lst ([V.ref f1] ++ [.ref f2])) oSL eSL
          have eSL := upd_same (H := N3) (a := SL) (o := .lst ([V.ref f1] ++ [.ref f2]))
          generalize upd N3 SL (.lst ([V.ref f1] ++ [.ref f2])) = N4 at b43 wo43 eSL ⊢
          clear b42 wo42
          walk_at "go"
          refine g_tyL eSL ?_
          walk_at "go"
          refine LamY.g_lamS b43.tb fun N5 f3 c3 xm tbm nf3 hf3 hc3 => ?_
          have b44 := b43.lam xm tbm nf3 hf3 LamY.lamO_ne hc3
          have wo44 := wo43.ext xm
          have eSL := xm _ _ eSL (fun _ z => nomatch z)
          clear b43 wo43 xm tbm nf3 hf3 hc3
          walk_at "go"
          refine g_append eSL (Nat.lt_of_le_of_lt (show _ ≤ 3 by show _ + 1 ≤ 3; exact Nat.le_of_ble_eq_true rfl) (by decide)) ?_
          have b45 := b44.put (o := .lst (([V.ref f1] ++ [V.ref f2]) ++ [.ref f3])) nSL fSL lSL eSL (fun p hp => by
            simp only [List.mem_cons, List.not_mem_nil, or_false] at hp
            rcases hp with rfl | rfl | rfl | rfl | rfl | rfl | rfl
            · exact lamO_nl
            · exact codeO_nl
            · exact lamO_nl
            · exact codeO_nl
            · exact lamO_nl
            · exact codeO_nl
            · exact fun _ z => nomatch z)
          have wo45 := wo44.put1 (o := .lst (([V.ref f1] ++ [V.ref f2]) ++ [.ref f3])) oSL eSL
          have eSL := upd_same (H := N5) (a := SL) (o := .lst (([V.ref f1] ++ [V.ref f2]) ++ [.ref f3]))
          generalize upd N5 SL (.lst (([V.ref f1] ++ [V.ref f2]) ++ [.ref f3])) = N6 at b45 wo45 eSL ⊢
          clear b44 wo44
          walk_at "go"
          refine w_lcList (xs := [.ref f1, .ref f2, .ref f3]) (SqL.of eSL) (fun D k H' => Same N6 H' ∧ H' D = some (.lst [])) (fun D hD => ⟨same_new hD, upd_same⟩) (fun D k H' hD _ h => SqL.of (h.1 _ _ eSL)) (fun D k y H' hD hy h => ?_) (fun D5 N7 hD5 h => ?_)
          · have bh := b45.same h.1
            have woh := wo45.frm (.of h.1)
            walk_at "go"
            refine ⟨rfl, ?_⟩
            walk_at "go"
            rcases k with _ | _ | _ | k
            · cases hy
              refine ⟨_, .head _, f1, c1, rfl, bh.lv.get 5 rfl, ?_⟩
              refine g_kind ?_
              refine ⟨bh.lv.get 4 rfl, ?_⟩
              refine ⟨.ref W, rfl, ?_⟩
              walk_at "go"
              refine ⟨W, O, rfl, 0, 9, ys, SqT.of (bh.lv.get 6 rfl), woh.wk, .inr ⟨⟨by decide, by decide, by decide⟩, nok, fun J s1' => ⟨3, CB, "BadWorks", rfl, rfl, RB, rfl, fun J' s2' => ?_⟩⟩⟩
              walk_at "go"
              exact ⟨(h.1.trans s1').trans s2', s2' _ _ (s1' _ _ h.2)⟩
            · cases hy
              refine ⟨_, .tail _ (.head _), f2, c2, rfl, bh.lv.get 3 rfl, ?_⟩
              refine g_kind ?_
              refine ⟨bh.lv.get 2 rfl, ?_⟩
              refine ⟨.ref W, rfl, ?_⟩
              walk_at "go"
              refine ⟨W, O, 0, rfl, 0, 9, ys, SqT.of (bh.lv.get 6 rfl), woh.wk, .inr ⟨⟨by decide, by decide, by decide⟩, nok, fun J s1' => ⟨3, CB, "BadWorks", rfl, rfl, RB, rfl, fun J' s2' => ?_⟩⟩⟩
              walk_at "go"
              exact ⟨(h.1.trans s1').trans s2', s2' _ _ (s1' _ _ h.2)⟩
            · cases hy
              refine ⟨_, .tail _ (.tail _ (.head _)), f3, c3, rfl, bh.lv.get 1 rfl, ?_⟩
              refine g_kind ?_
              refine ⟨bh.lv.get 0 rfl, ?_⟩
              refine ⟨.ref W, rfl, ?_⟩
              walk_at "go"
              refine ⟨W, O, 1, rfl, 0, 9, ys, SqT.of (bh.lv.get 6 rfl), woh.wk, .inr ⟨⟨by decide, by decide, by decide⟩, nok, fun J s1' => ⟨3, CB, "BadWorks", rfl, rfl, RB, rfl, fun J' s2' => ?_⟩⟩⟩
              walk_at "go"
              exact ⟨(h.1.trans s1').trans s2', s2' _ _ (s1' _ _ h.2)⟩
            · cases hy
          · obtain ⟨x47, eD5⟩ := h
            have b47 := b45.same x47
            have wo47 := wo45.frm (.of x47)
            have eSL7 := x47 _ _ eSL
            clear b45 wo45 x47
            walk_at "go"
            intro p48 hp48
            have x48 := same_new (o := .lst []) hp48
            refine g_neLI (ns := []) (ms := []) (SqL.of (x48 _ _ eD5)) (SqL.of upd_same) ?_
            have b48 := b47.same x48
            have wo48 := wo47.frm (.of x48)
            have eSL8 := x48 _ _ eSL7
            generalize upd N7 p48 (.lst []) = N8 at b48 wo48 eSL8
            clear b47 wo47 eSL7 x48 eD5 hp48
            walk_at "go"
            intro W2 hW2
            have b49 := b48.new (o := .tup [.int 3, .int 2]) hW2
            have wo49 := wo48.frm (.new (o := .tup [.int 3, .int 2]) hW2)
            have eSL9 := same_new (o := .tup [.int 3, .int 2]) hW2 _ _ eSL8
            generalize upd N8 W2 (.tup [.int 3, .int 2]) = N9 at b49 wo49 eSL9
            clear b48 wo48 eSL8 hW2
            walk_at "go"
            refine w_lcList (xs := [.ref f1, .ref f2, .ref f3]) (SqL.of eSL9) (fun D k H' => Same N9 H' ∧ H' D = some (.lst [])) (fun D hD => ⟨same_new hD, upd_same⟩) (fun D k H' hD _ h => SqL.of (h.1 _ _ eSL9)) (fun D k y H' hD hy h => ?_) (fun D6 Z1 hD6 h => ?_)
            · have bh := b49.same h.1
              have woh := wo49.frm (.of h.1)
              walk_at "go"
              refine ⟨rfl, ?_⟩
              walk_at "go"
              rcases k with _ | _ | _ | k
              · cases hy
                refine ⟨_, .head _, f1, c1, rfl, bh.lv.get 6 rfl, ?_⟩
                refine g_kind ?_
                refine ⟨bh.lv.get 5 rfl, ?_⟩
                refine ⟨.ref W2, rfl, ?_⟩
                walk_at "go"
                refine ⟨W2, O, rfl, 3, 2, ys, SqT.of (bh.lv.get 0 rfl), woh.wk, .inl ⟨fun z => by have := z.2.1; omega, fun J s1' => ⟨0, CW, "BadWindow", rfl, rfl, RW, rfl, fun J' s2' => ?_⟩⟩⟩
                walk_at "go"
                exact ⟨(h.1.trans s1').trans s2', s2' _ _ (s1' _ _ h.2)⟩
              · cases hy
                refine ⟨_, .tail _ (.head _), f2, c2, rfl, bh.lv.get 4 rfl, ?_⟩
                refine g_kind ?_
                refine ⟨bh.lv.get 3 rfl, ?_⟩
                refine ⟨.ref W2, rfl, ?_⟩
                walk_at "go"
                refine ⟨W2, O, 0, rfl, 3, 2, ys, SqT.of (bh.lv.get 0 rfl), woh.wk, .inl ⟨fun z => by have := z.2.1; omega, fun J s1' => ⟨0, CW, "BadWindow", rfl, rfl, RW, rfl, fun J' s2' => ?_⟩⟩⟩
                walk_at "go"
                exact ⟨(h.1.trans s1').trans s2', s2' _ _ (s1' _ _ h.2)⟩
              · cases hy
                refine ⟨_, .tail _ (.tail _ (.head _)), f3, c3, rfl, bh.lv.get 2 rfl, ?_⟩
                refine g_kind ?_
                refine ⟨bh.lv.get 1 rfl, ?_⟩
                refine ⟨.ref W2, rfl, ?_⟩
                walk_at "go"
                refine ⟨W2, O, 1, rfl, 3, 2, ys, SqT.of (bh.lv.get 0 rfl), woh.wk, .inl ⟨fun z => by have := z.2.1; omega, fun J s1' => ⟨0, CW, "BadWindow", rfl, rfl, RW, rfl, fun J' s2' => ?_⟩⟩⟩
                walk_at "go"
                exact ⟨(h.1.trans s1').trans s2', s2' _ _ (s1' _ _ h.2)⟩
              · cases hy
            · obtain ⟨x50, eD6⟩ := h
              have b50 := b49.same x50
              clear b49 wo49 x50
              walk_at "go"
              intro p51 hp51
              have x51 := same_new (o := .lst []) hp51
              refine g_neLI (ns := []) (ms := []) (SqL.of (x51 _ _ eD6)) (SqL.of upd_same) ?_
              have b51 := b50.same x51
              walk_at "go"
              exact ⟨_, _, _, _, _, _, _, _, _, _, _, _, _, _, _, _, rfl, b51.d, b51.tb⟩
    · rintro σ H' ⟨v2, v3, v4, v5, v6, v7, v8, v9, v10, v11, v12, v13, v14, v15, v16, v17, rfl, d, tb⟩
      walk_at "go"
      exact q _
end
end K07
namespace K07
open PySem PySem.Spec PyProof.Rows L2 Wd
theorem law_at {l : PySem.W.OpenLaw} {w : World} {K : PySem.W.Frag} {h : Heap} {mg : Str → Option Value} {fa : Addr} (X : K.In h) (G : h.Ns mainGlobals mg) (hfa : mg "law" = some (.ref fa))
    {f_is_number : Addr} {oc_is_number kV_is_number dc_is_number pm_is_number cd_is_number ct_is_number : Value} {od_is_number an_is_number : Option Addr} {sl_is_number : Array (Option Value)}
    {f_is_range : Addr} {oc_is_range kV_is_range dc_is_range pm_is_range cd_is_range ct_is_range : Value} {od_is_range an_is_range : Option Addr} {sl_is_range : Array (Option Value)}
    {f_has_form : Addr} {oc_has_form kV_has_form dc_has_form pm_has_form cd_has_form ct_has_form : Value} {od_has_form an_has_form : Option Addr} {sl_has_form : Array (Option Value)}
    {f_plans_in : Addr} {oc_plans_in kV_plans_in dc_plans_in pm_plans_in cd_plans_in ct_plans_in : Value} {od_plans_in an_plans_in : Option Addr} {sl_plans_in : Array (Option Value)}
    {f_check_plan : Addr} {oc_check_plan kV_check_plan dc_check_plan pm_check_plan cd_check_plan ct_check_plan : Value} {od_check_plan an_check_plan : Option Addr} {sl_check_plan : Array (Option Value)}
    {f_run_plan : Addr} {oc_run_plan kV_run_plan dc_run_plan pm_run_plan cd_run_plan ct_run_plan : Value} {od_run_plan an_run_plan : Option Addr} {sl_run_plan : Array (Option Value)}
    {f_check_window : Addr} {oc_check_window kV_check_window dc_check_window pm_check_window cd_check_window ct_check_window : Value} {od_check_window an_check_window : Option Addr} {sl_check_window : Array (Option Value)}
    {f_check_works : Addr} {oc_check_works kV_check_works dc_check_works pm_check_works cd_check_works ct_check_works : Value} {od_check_works an_check_works : Option Addr} {sl_check_works : Array (Option Value)}
    {f_check_places : Addr} {oc_check_places kV_check_places dc_check_places pm_check_places cd_check_places ct_check_places : Value} {od_check_places an_check_places : Option Addr} {sl_check_places : Array (Option Value)}
    {f_plan_with : Addr} {oc_plan_with kV_plan_with dc_plan_with pm_plan_with cd_plan_with ct_plan_with : Value} {od_plan_with an_plan_with : Option Addr} {sl_plan_with : Array (Option Value)}
    {f_fewest : Addr} {oc_fewest kV_fewest dc_fewest pm_fewest cd_fewest ct_fewest : Value} {od_fewest an_fewest : Option Addr} {sl_fewest : Array (Option Value)}
    {f_levels_from : Addr} {oc_levels_from kV_levels_from dc_levels_from pm_levels_from cd_levels_from ct_levels_from : Value} {od_levels_from an_levels_from : Option Addr} {sl_levels_from : Array (Option Value)}
    {f_shown : Addr} {oc_shown kV_shown dc_shown pm_shown cd_shown ct_shown : Value} {od_shown an_shown : Option Addr} {sl_shown : Array (Option Value)}
    {f_law_start : Addr} {oc_law_start kV_law_start dc_law_start pm_law_start cd_law_start ct_law_start : Value} {od_law_start an_law_start : Option Addr} {sl_law_start : Array (Option Value)}
    {f_law_drawn : Addr} {oc_law_drawn kV_law_drawn dc_law_drawn pm_law_drawn cd_law_drawn ct_law_drawn : Value} {od_law_drawn an_law_drawn : Option Addr} {sl_law_drawn : Array (Option Value)}
    {f_law_same : Addr} {oc_law_same kV_law_same dc_law_same pm_law_same cd_law_same ct_law_same : Value} {od_law_same an_law_same : Option Addr} {sl_law_same : Array (Option Value)}
    {f_law_kind : Addr} {oc_law_kind kV_law_kind dc_law_kind pm_law_kind cd_law_kind ct_law_kind : Value} {od_law_kind an_law_kind : Option Addr} {sl_law_kind : Array (Option Value)}
    {f_law_far : Addr} {oc_law_far kV_law_far dc_law_far pm_law_far cd_law_far ct_law_far : Value} {od_law_far an_law_far : Option Addr} {sl_law_far : Array (Option Value)}
    {f_law_works : Addr} {oc_law_works kV_law_works dc_law_works pm_law_works cd_law_works ct_law_works : Value} {od_law_works an_law_works : Option Addr} {sl_law_works : Array (Option Value)}
    {f_law_odd : Addr} {oc_law_odd kV_law_odd dc_law_odd pm_law_odd cd_law_odd ct_law_odd : Value} {od_law_odd an_law_odd : Option Addr} {sl_law_odd : Array (Option Value)}
    {fa0 : Addr} {oc_law kV_law dc_law pm_law ct_law : Value} {od_law an_law : Option Addr} {sl_law : Array (Option Value)}
    {C_Run : Addr}
    {f_Run_init : Addr} {oc_Run_init kV_Run_init dc_Run_init pm_Run_init cd_Run_init ct_Run_init : Value} {od_Run_init an_Run_init : Option Addr} {sl_Run_init : Array (Option Value)}
    {f_Run_take : Addr} {oc_Run_take kV_Run_take dc_Run_take pm_Run_take cd_Run_take ct_Run_take : Value} {od_Run_take an_Run_take : Option Addr} {sl_Run_take : Array (Option Value)}
    {f_Run_follow : Addr} {oc_Run_follow kV_Run_follow dc_Run_follow pm_Run_follow cd_Run_follow ct_Run_follow : Value} {od_Run_follow an_Run_follow : Option Addr} {sl_Run_follow : Array (Option Value)}
    {C_Ring : Addr}
    {f_Ring_init : Addr} {oc_Ring_init kV_Ring_init dc_Ring_init pm_Ring_init cd_Ring_init ct_Ring_init : Value} {od_Ring_init an_Ring_init : Option Addr} {sl_Ring_init : Array (Option Value)}
    {cc Pt : Addr} {occ : Value} {odc : Option Addr} {slc : Array (Option Value)} {vsc : Array Value}
    {t_LONGEST_WORK : Tok}
    {t_MOST_TIMES : Tok}
    {t_LONGEST_ROW : Tok}
    {t_MOST_PLANS : Tok}
    {t_MOST_DEEP : Tok}
    {t_MOST_LOOPS : Tok}
    {t_GREATEST_HIGH : Tok}
    {t_MOST_WORKS : Tok}
    {CD C_0 C_1 C_2 C_3 C_4 C_5 C_6 C_7 C_8 : Addr}
    (a_is_number : PySem.W.nsIn K mainGlobals "is_number" = some (some (.ref f_is_number)))
    (l_is_number : K.lookup f_is_number = some ⟨oc_is_number, od_is_number, .func (PySem.W.fnOf "is_number" "is_number" (C8.fnArgs s_is_number) (C8.fnBody s_is_number) (C8.fnScope s_is_number) .none kV_is_number dc_is_number pm_is_number an_is_number cd_is_number ct_is_number), sl_is_number⟩)
    (c_is_number : PySem.W.codeIn K cd_is_number "is_number" = true)
    (k_is_number : PySem.W.keepIn K (.ref f_is_number) = true)
    (a_is_range : PySem.W.nsIn K mainGlobals "is_range" = some (some (.ref f_is_range)))
    (l_is_range : K.lookup f_is_range = some ⟨oc_is_range, od_is_range, .func (PySem.W.fnOf "is_range" "is_range" (C8.fnArgs s_is_range) (C8.fnBody s_is_range) (C8.fnScope s_is_range) .none kV_is_range dc_is_range pm_is_range an_is_range cd_is_range ct_is_range), sl_is_range⟩)
    (c_is_range : PySem.W.codeIn K cd_is_range "is_range" = true)
    (k_is_range : PySem.W.keepIn K (.ref f_is_range) = true)
    (a_has_form : PySem.W.nsIn K mainGlobals "has_form" = some (some (.ref f_has_form)))
    (l_has_form : K.lookup f_has_form = some ⟨oc_has_form, od_has_form, .func (PySem.W.fnOf "has_form" "has_form" (C8.fnArgs s_has_form) (C8.fnBody s_has_form) (C8.fnScope s_has_form) .none kV_has_form dc_has_form pm_has_form an_has_form cd_has_form ct_has_form), sl_has_form⟩)
    (c_has_form : PySem.W.codeIn K cd_has_form "has_form" = true)
    (k_has_form : PySem.W.keepIn K (.ref f_has_form) = true)
    (a_plans_in : PySem.W.nsIn K mainGlobals "plans_in" = some (some (.ref f_plans_in)))
    (l_plans_in : K.lookup f_plans_in = some ⟨oc_plans_in, od_plans_in, .func (PySem.W.fnOf "plans_in" "plans_in" (C8.fnArgs s_plans_in) (C8.fnBody s_plans_in) (C8.fnScope s_plans_in) .none kV_plans_in dc_plans_in pm_plans_in an_plans_in cd_plans_in ct_plans_in), sl_plans_in⟩)
    (c_plans_in : PySem.W.codeIn K cd_plans_in "plans_in" = true)
    (k_plans_in : PySem.W.keepIn K (.ref f_plans_in) = true)
    (a_check_plan : PySem.W.nsIn K mainGlobals "check_plan" = some (some (.ref f_check_plan)))
    (l_check_plan : K.lookup f_check_plan = some ⟨oc_check_plan, od_check_plan, .func (PySem.W.fnOf "check_plan" "check_plan" (C8.fnArgs s_check_plan) (C8.fnBody s_check_plan) (C8.fnScope s_check_plan) .none kV_check_plan dc_check_plan pm_check_plan an_check_plan cd_check_plan ct_check_plan), sl_check_plan⟩)
    (c_check_plan : PySem.W.codeIn K cd_check_plan "check_plan" = true)
    (k_check_plan : PySem.W.keepIn K (.ref f_check_plan) = true)
    (a_run_plan : PySem.W.nsIn K mainGlobals "run_plan" = some (some (.ref f_run_plan)))
    (l_run_plan : K.lookup f_run_plan = some ⟨oc_run_plan, od_run_plan, .func (PySem.W.fnOf "run_plan" "run_plan" (C8.fnArgs s_run_plan) (C8.fnBody s_run_plan) (C8.fnScope s_run_plan) .none kV_run_plan dc_run_plan pm_run_plan an_run_plan cd_run_plan ct_run_plan), sl_run_plan⟩)
    (c_run_plan : PySem.W.codeIn K cd_run_plan "run_plan" = true)
    (k_run_plan : PySem.W.keepIn K (.ref f_run_plan) = true)
    (a_check_window : PySem.W.nsIn K mainGlobals "check_window" = some (some (.ref f_check_window)))
    (l_check_window : K.lookup f_check_window = some ⟨oc_check_window, od_check_window, .func (PySem.W.fnOf "check_window" "check_window" (C8.fnArgs s_check_window) (C8.fnBody s_check_window) (C8.fnScope s_check_window) .none kV_check_window dc_check_window pm_check_window an_check_window cd_check_window ct_check_window), sl_check_window⟩)
    (c_check_window : PySem.W.codeIn K cd_check_window "check_window" = true)
    (k_check_window : PySem.W.keepIn K (.ref f_check_window) = true)
    (a_check_works : PySem.W.nsIn K mainGlobals "check_works" = some (some (.ref f_check_works)))
    (l_check_works : K.lookup f_check_works = some ⟨oc_check_works, od_check_works, .func (PySem.W.fnOf "check_works" "check_works" (C8.fnArgs s_check_works) (C8.fnBody s_check_works) (C8.fnScope s_check_works) .none kV_check_works dc_check_works pm_check_works an_check_works cd_check_works ct_check_works), sl_check_works⟩)
    (c_check_works : PySem.W.codeIn K cd_check_works "check_works" = true)
    (k_check_works : PySem.W.keepIn K (.ref f_check_works) = true)
    (a_check_places : PySem.W.nsIn K mainGlobals "check_places" = some (some (.ref f_check_places)))
    (l_check_places : K.lookup f_check_places = some ⟨oc_check_places, od_check_places, .func (PySem.W.fnOf "check_places" "check_places" (C8.fnArgs s_check_places) (C8.fnBody s_check_places) (C8.fnScope s_check_places) .none kV_check_places dc_check_places pm_check_places an_check_places cd_check_places ct_check_places), sl_check_places⟩)
    (c_check_places : PySem.W.codeIn K cd_check_places "check_places" = true)
    (k_check_places : PySem.W.keepIn K (.ref f_check_places) = true)
    (a_plan_with : PySem.W.nsIn K mainGlobals "plan_with" = some (some (.ref f_plan_with)))
    (l_plan_with : K.lookup f_plan_with = some ⟨oc_plan_with, od_plan_with, .func (PySem.W.fnOf "plan_with" "plan_with" (C8.fnArgs s_plan_with) (C8.fnBody s_plan_with) (C8.fnScope s_plan_with) .none kV_plan_with dc_plan_with pm_plan_with an_plan_with cd_plan_with ct_plan_with), sl_plan_with⟩)
    (c_plan_with : PySem.W.codeIn K cd_plan_with "plan_with" = true)
    (k_plan_with : PySem.W.keepIn K (.ref f_plan_with) = true)
    (a_fewest : PySem.W.nsIn K mainGlobals "fewest" = some (some (.ref f_fewest)))
    (l_fewest : K.lookup f_fewest = some ⟨oc_fewest, od_fewest, .func (PySem.W.fnOf "fewest" "fewest" (C8.fnArgs s_fewest) (C8.fnBody s_fewest) (C8.fnScope s_fewest) .none kV_fewest dc_fewest pm_fewest an_fewest cd_fewest ct_fewest), sl_fewest⟩)
    (c_fewest : PySem.W.codeIn K cd_fewest "fewest" = true)
    (k_fewest : PySem.W.keepIn K (.ref f_fewest) = true)
    (a_levels_from : PySem.W.nsIn K mainGlobals "levels_from" = some (some (.ref f_levels_from)))
    (l_levels_from : K.lookup f_levels_from = some ⟨oc_levels_from, od_levels_from, .func (PySem.W.fnOf "levels_from" "levels_from" (C8.fnArgs s_levels_from) (C8.fnBody s_levels_from) (C8.fnScope s_levels_from) .none kV_levels_from dc_levels_from pm_levels_from an_levels_from cd_levels_from ct_levels_from), sl_levels_from⟩)
    (c_levels_from : PySem.W.codeIn K cd_levels_from "levels_from" = true)
    (k_levels_from : PySem.W.keepIn K (.ref f_levels_from) = true)
    (a_shown : PySem.W.nsIn K mainGlobals "shown" = some (some (.ref f_shown)))
    (l_shown : K.lookup f_shown = some ⟨oc_shown, od_shown, .func (PySem.W.fnOf "shown" "shown" (C8.fnArgs s_shown) (C8.fnBody s_shown) (C8.fnScope s_shown) .none kV_shown dc_shown pm_shown an_shown cd_shown ct_shown), sl_shown⟩)
    (c_shown : PySem.W.codeIn K cd_shown "shown" = true)
    (k_shown : PySem.W.keepIn K (.ref f_shown) = true)
    (a_law_start : PySem.W.nsIn K mainGlobals "_law_start" = some (some (.ref f_law_start)))
    (l_law_start : K.lookup f_law_start = some ⟨oc_law_start, od_law_start, .func (PySem.W.fnOf "_law_start" "_law_start" (C8.fnArgs s_law_start) (C8.fnBody s_law_start) (C8.fnScope s_law_start) .none kV_law_start dc_law_start pm_law_start an_law_start cd_law_start ct_law_start), sl_law_start⟩)
    (c_law_start : PySem.W.codeIn K cd_law_start "_law_start" = true)
    (k_law_start : PySem.W.keepIn K (.ref f_law_start) = true)
    (a_law_drawn : PySem.W.nsIn K mainGlobals "_law_drawn" = some (some (.ref f_law_drawn)))
    (l_law_drawn : K.lookup f_law_drawn = some ⟨oc_law_drawn, od_law_drawn, .func (PySem.W.fnOf "_law_drawn" "_law_drawn" (C8.fnArgs s_law_drawn) (C8.fnBody s_law_drawn) (C8.fnScope s_law_drawn) .none kV_law_drawn dc_law_drawn pm_law_drawn an_law_drawn cd_law_drawn ct_law_drawn), sl_law_drawn⟩)
    (c_law_drawn : PySem.W.codeIn K cd_law_drawn "_law_drawn" = true)
    (k_law_drawn : PySem.W.keepIn K (.ref f_law_drawn) = true)
    (a_law_same : PySem.W.nsIn K mainGlobals "_law_same" = some (some (.ref f_law_same)))
    (l_law_same : K.lookup f_law_same = some ⟨oc_law_same, od_law_same, .func (PySem.W.fnOf "_law_same" "_law_same" (C8.fnArgs s_law_same) (C8.fnBody s_law_same) (C8.fnScope s_law_same) .none kV_law_same dc_law_same pm_law_same an_law_same cd_law_same ct_law_same), sl_law_same⟩)
    (c_law_same : PySem.W.codeIn K cd_law_same "_law_same" = true)
    (k_law_same : PySem.W.keepIn K (.ref f_law_same) = true)
    (a_law_kind : PySem.W.nsIn K mainGlobals "_law_kind" = some (some (.ref f_law_kind)))
    (l_law_kind : K.lookup f_law_kind = some ⟨oc_law_kind, od_law_kind, .func (PySem.W.fnOf "_law_kind" "_law_kind" (C8.fnArgs s_law_kind) (C8.fnBody s_law_kind) (C8.fnScope s_law_kind) .none kV_law_kind dc_law_kind pm_law_kind an_law_kind cd_law_kind ct_law_kind), sl_law_kind⟩)
    (c_law_kind : PySem.W.codeIn K cd_law_kind "_law_kind" = true)
    (k_law_kind : PySem.W.keepIn K (.ref f_law_kind) = true)
    (a_law_far : PySem.W.nsIn K mainGlobals "_law_far" = some (some (.ref f_law_far)))
    (l_law_far : K.lookup f_law_far = some ⟨oc_law_far, od_law_far, .func (PySem.W.fnOf "_law_far" "_law_far" (C8.fnArgs s_law_far) (C8.fnBody s_law_far) (C8.fnScope s_law_far) .none kV_law_far dc_law_far pm_law_far an_law_far cd_law_far ct_law_far), sl_law_far⟩)
    (c_law_far : PySem.W.codeIn K cd_law_far "_law_far" = true)
    (k_law_far : PySem.W.keepIn K (.ref f_law_far) = true)
    (a_law_works : PySem.W.nsIn K mainGlobals "_law_works" = some (some (.ref f_law_works)))
    (l_law_works : K.lookup f_law_works = some ⟨oc_law_works, od_law_works, .func (PySem.W.fnOf "_law_works" "_law_works" (C8.fnArgs s_law_works) (C8.fnBody s_law_works) (C8.fnScope s_law_works) .none kV_law_works dc_law_works pm_law_works an_law_works cd_law_works ct_law_works), sl_law_works⟩)
    (c_law_works : PySem.W.codeIn K cd_law_works "_law_works" = true)
    (k_law_works : PySem.W.keepIn K (.ref f_law_works) = true)
    (a_law_odd : PySem.W.nsIn K mainGlobals "_law_odd" = some (some (.ref f_law_odd)))
    (l_law_odd : K.lookup f_law_odd = some ⟨oc_law_odd, od_law_odd, .func (PySem.W.fnOf "_law_odd" "_law_odd" (C8.fnArgs s_law_odd) (C8.fnBody s_law_odd) (C8.fnScope s_law_odd) .none kV_law_odd dc_law_odd pm_law_odd an_law_odd cd_law_odd ct_law_odd), sl_law_odd⟩)
    (c_law_odd : PySem.W.codeIn K cd_law_odd "_law_odd" = true)
    (k_law_odd : PySem.W.keepIn K (.ref f_law_odd) = true)
    (a_law : PySem.W.nsIn K mainGlobals "law" = some (some (.ref fa0)))
    (l_law : K.lookup fa0 = some ⟨oc_law, od_law, .func (PySem.W.fnOf "law" "law" (C8.fnArgs s_law) (C8.fnBody s_law) (C8.fnScope s_law) .none kV_law dc_law pm_law an_law (.ref cc) ct_law), sl_law⟩)
    (c_law : PySem.W.codeIn K (.ref cc) "law" = true)
    (k_law : PySem.W.keepIn K (.ref fa0) = true)
    (aC_Run : PySem.W.nsIn K mainGlobals "Run" = some (some (.ref C_Run)))
    (a_Run_init : PySem.W.findIn K (.ref C_Run) "__init__" = some (some (.ref f_Run_init)))
    (i_Run_init : PySem.W.isFn K (.ref f_Run_init) = true)
    (l_Run_init : K.lookup f_Run_init = some ⟨oc_Run_init, od_Run_init, .func (PySem.W.fnOf "__init__" "Run.__init__" (C8.fnArgs s_Run_init) (C8.fnBody s_Run_init) (C8.fnScope s_Run_init) .none kV_Run_init dc_Run_init pm_Run_init an_Run_init cd_Run_init ct_Run_init), sl_Run_init⟩)
    (c_Run_init : PySem.W.codeIn K cd_Run_init "Run.__init__" = true)
    (k_Run_init : PySem.W.keepIn K (.ref f_Run_init) = true)
    (a_Run_take : PySem.W.findIn K (.ref C_Run) "take" = some (some (.ref f_Run_take)))
    (i_Run_take : PySem.W.isFn K (.ref f_Run_take) = true)
    (l_Run_take : K.lookup f_Run_take = some ⟨oc_Run_take, od_Run_take, .func (PySem.W.fnOf "take" "Run.take" (C8.fnArgs s_Run_take) (C8.fnBody s_Run_take) (C8.fnScope s_Run_take) .none kV_Run_take dc_Run_take pm_Run_take an_Run_take cd_Run_take ct_Run_take), sl_Run_take⟩)
    (c_Run_take : PySem.W.codeIn K cd_Run_take "Run.take" = true)
    (k_Run_take : PySem.W.keepIn K (.ref f_Run_take) = true)
    (a_Run_follow : PySem.W.findIn K (.ref C_Run) "follow" = some (some (.ref f_Run_follow)))
    (i_Run_follow : PySem.W.isFn K (.ref f_Run_follow) = true)
    (l_Run_follow : K.lookup f_Run_follow = some ⟨oc_Run_follow, od_Run_follow, .func (PySem.W.fnOf "follow" "Run.follow" (C8.fnArgs s_Run_follow) (C8.fnBody s_Run_follow) (C8.fnScope s_Run_follow) .none kV_Run_follow dc_Run_follow pm_Run_follow an_Run_follow cd_Run_follow ct_Run_follow), sl_Run_follow⟩)
    (c_Run_follow : PySem.W.codeIn K cd_Run_follow "Run.follow" = true)
    (k_Run_follow : PySem.W.keepIn K (.ref f_Run_follow) = true)
    (pg_Run : PySem.W.plainGet K C_Run Str.empty = true)
    (hdd_Run : PySem.W.hasDictIn K C_Run = true)
    (po_Run : PySem.W.plainOver K C_Run = true)
    (sa_Run : PySem.W.findIn K (.ref C_Run) "__setattr__" = some (some (.builtin "object.__setattr__")))
    (mk_Run : PySem.W.makesIn K C_Run = true)
    (kc_Run : PySem.W.keepIn K (.ref C_Run) = true)
    (n_Run_delays : PySem.W.findIn K (.ref C_Run) "delays" = some none)
    (n_Run_used : PySem.W.findIn K (.ref C_Run) "used" = some none)
    (n_Run_now : PySem.W.findIn K (.ref C_Run) "now" = some none)
    (n_Run_pats : PySem.W.findIn K (.ref C_Run) "pats" = some none)
    (aC_Ring : PySem.W.nsIn K mainGlobals "Ring" = some (some (.ref C_Ring)))
    (a_Ring_init : PySem.W.findIn K (.ref C_Ring) "__init__" = some (some (.ref f_Ring_init)))
    (i_Ring_init : PySem.W.isFn K (.ref f_Ring_init) = true)
    (l_Ring_init : K.lookup f_Ring_init = some ⟨oc_Ring_init, od_Ring_init, .func (PySem.W.fnOf "__init__" "Ring.__init__" (C8.fnArgs s_Ring_init) (C8.fnBody s_Ring_init) (C8.fnScope s_Ring_init) .none kV_Ring_init dc_Ring_init pm_Ring_init an_Ring_init cd_Ring_init ct_Ring_init), sl_Ring_init⟩)
    (c_Ring_init : PySem.W.codeIn K cd_Ring_init "Ring.__init__" = true)
    (k_Ring_init : PySem.W.keepIn K (.ref f_Ring_init) = true)
    (pg_Ring : PySem.W.plainGet K C_Ring Str.empty = true)
    (hdd_Ring : PySem.W.hasDictIn K C_Ring = true)
    (po_Ring : PySem.W.plainOver K C_Ring = true)
    (sa_Ring : PySem.W.findIn K (.ref C_Ring) "__setattr__" = some (some (.builtin "object.__setattr__")))
    (mk_Ring : PySem.W.makesIn K C_Ring = true)
    (kc_Ring : PySem.W.keepIn K (.ref C_Ring) = true)
    (lc : K.lookup cc = some ⟨occ, odc, .fields vsc, slc⟩)
    (v11 : vsc[11]? = some (.ref Pt))
    (hch : PySem.W.codeHdIn K cc Pt = true)
    (nPt : K.lookup Pt = none)
    (z_isinstance : PySem.W.nsIn K mainGlobals "isinstance" = some none)
    (z_len : PySem.W.nsIn K mainGlobals "len" = some none)
    (z_int : PySem.W.nsIn K mainGlobals "int" = some none)
    (z_bool : PySem.W.nsIn K mainGlobals "bool" = some none)
    (z_range : PySem.W.nsIn K mainGlobals "range" = some none)
    (z_list : PySem.W.nsIn K mainGlobals "list" = some none)
    (z_tuple : PySem.W.nsIn K mainGlobals "tuple" = some none)
    (z_str : PySem.W.nsIn K mainGlobals "str" = some none)
    (z_sum : PySem.W.nsIn K mainGlobals "sum" = some none)
    (z_ValueError : PySem.W.nsIn K mainGlobals "ValueError" = some none)
    (z_enumerate : PySem.W.nsIn K mainGlobals "enumerate" = some none)
    (q_LONGEST_WORK : PySem.W.nsIn K mainGlobals "LONGEST_WORK" = some (some (.int 1000 t_LONGEST_WORK)))
    (q_MOST_TIMES : PySem.W.nsIn K mainGlobals "MOST_TIMES" = some (some (.int 9 t_MOST_TIMES)))
    (q_LONGEST_ROW : PySem.W.nsIn K mainGlobals "LONGEST_ROW" = some (some (.int 20 t_LONGEST_ROW)))
    (q_MOST_PLANS : PySem.W.nsIn K mainGlobals "MOST_PLANS" = some (some (.int 30 t_MOST_PLANS)))
    (q_MOST_DEEP : PySem.W.nsIn K mainGlobals "MOST_DEEP" = some (some (.int 6 t_MOST_DEEP)))
    (q_MOST_LOOPS : PySem.W.nsIn K mainGlobals "MOST_LOOPS" = some (some (.int 2 t_MOST_LOOPS)))
    (q_GREATEST_HIGH : PySem.W.nsIn K mainGlobals "GREATEST_HIGH" = some (some (.int 1000 t_GREATEST_HIGH)))
    (q_MOST_WORKS : PySem.W.nsIn K mainGlobals "MOST_WORKS" = some (some (.int 10 t_MOST_WORKS)))
    (aD : PySem.W.nsIn K mainGlobals "DogError" = some (some (.ref CD)))
    (aC0 : PySem.W.nsIn K mainGlobals "BadWindow" = some (some (.ref C_0)))
    (aC1 : PySem.W.nsIn K mainGlobals "BadPlan" = some (some (.ref C_1)))
    (aC2 : PySem.W.nsIn K mainGlobals "BadDelays" = some (some (.ref C_2)))
    (aC3 : PySem.W.nsIn K mainGlobals "BadWorks" = some (some (.ref C_3)))
    (aC4 : PySem.W.nsIn K mainGlobals "NoPats" = some (some (.ref C_4)))
    (aC5 : PySem.W.nsIn K mainGlobals "NoPlace" = some (some (.ref C_5)))
    (aC6 : PySem.W.nsIn K mainGlobals "BadTasks" = some (some (.ref C_6)))
    (aC7 : PySem.W.nsIn K mainGlobals "BadBeat" = some (some (.ref C_7)))
    (aC8 : PySem.W.nsIn K mainGlobals "TooMuch" = some (some (.ref C_8)))
    (bD : PySem.W.subIn K (.ref CD) (.type "BaseException") = some true)
    (hD : PySem.W.hasDictIn K CD = true)
    (tD : PySem.W.typeIn K (.ref CD) = some (.type "type"))
    (xn : PySem.W.specialIn K (.builtin "object.__class__") "__get__" = some (some (.builtin "getset_descriptor.__get__")))
    (xt : PySem.W.takesIn K (.builtin "object.__class__") = some true)
    (x0 : PySem.W.excIn K C_0 [.type "ValueError", .type "Exception", .type "BaseException", .type "object"] "ValueError.__new__" = true)
    (kk0 : PySem.W.keepIn K (.ref C_0) = true)
    (b0 : PySem.W.subIn K (.ref C_0) (.type "BaseException") = some true)
    (t0 : PySem.W.typeIn K (.ref C_0) = some (.type "type"))
    (hg0 : PySem.W.findIn K (.ref C_0) "__getattribute__" = some (some (.builtin "BaseException.__getattribute__")))
    (hk0 : PySem.W.findIn K (.ref C_0) "__getattr__" = some none)
    (hd0 : PySem.W.hasDictIn K C_0 = true)
    (ha0 : PySem.W.findIn K (.ref C_0) "__class__" = some (some (.builtin "object.__class__")))
    (hm0 : PySem.W.mroIn K C_0 (.type "object") = some true)
    (sD0 : PySem.W.subIn K (.ref C_0) (.ref CD) = some true)
    (kv0 : PySem.W.kitOne K (.ref C_0) (.type "ValueError") = some true)
    (ki0_0 : PySem.W.kitOne K (.ref C_0) (.ref C_0) = some true)
    (ki0_1 : PySem.W.kitOne K (.ref C_0) (.ref C_1) = some false)
    (ki0_2 : PySem.W.kitOne K (.ref C_0) (.ref C_2) = some false)
    (ki0_3 : PySem.W.kitOne K (.ref C_0) (.ref C_3) = some false)
    (ki0_4 : PySem.W.kitOne K (.ref C_0) (.ref C_4) = some false)
    (ki0_5 : PySem.W.kitOne K (.ref C_0) (.ref C_5) = some false)
    (ki0_6 : PySem.W.kitOne K (.ref C_0) (.ref C_6) = some false)
    (ki0_7 : PySem.W.kitOne K (.ref C_0) (.ref C_7) = some false)
    (ki0_8 : PySem.W.kitOne K (.ref C_0) (.ref C_8) = some false)
    (x3 : PySem.W.excIn K C_3 [.type "ValueError", .type "Exception", .type "BaseException", .type "object"] "ValueError.__new__" = true)
    (kk3 : PySem.W.keepIn K (.ref C_3) = true)
    (b3 : PySem.W.subIn K (.ref C_3) (.type "BaseException") = some true)
    (t3 : PySem.W.typeIn K (.ref C_3) = some (.type "type"))
    (hg3 : PySem.W.findIn K (.ref C_3) "__getattribute__" = some (some (.builtin "BaseException.__getattribute__")))
    (hk3 : PySem.W.findIn K (.ref C_3) "__getattr__" = some none)
    (hd3 : PySem.W.hasDictIn K C_3 = true)
    (ha3 : PySem.W.findIn K (.ref C_3) "__class__" = some (some (.builtin "object.__class__")))
    (hm3 : PySem.W.mroIn K C_3 (.type "object") = some true)
    (sD3 : PySem.W.subIn K (.ref C_3) (.ref CD) = some true)
    (kv3 : PySem.W.kitOne K (.ref C_3) (.type "ValueError") = some true)
    (ki3_0 : PySem.W.kitOne K (.ref C_3) (.ref C_0) = some false)
    (ki3_1 : PySem.W.kitOne K (.ref C_3) (.ref C_1) = some false)
    (ki3_2 : PySem.W.kitOne K (.ref C_3) (.ref C_2) = some false)
    (ki3_3 : PySem.W.kitOne K (.ref C_3) (.ref C_3) = some true)
    (ki3_4 : PySem.W.kitOne K (.ref C_3) (.ref C_4) = some false)
    (ki3_5 : PySem.W.kitOne K (.ref C_3) (.ref C_5) = some false)
    (ki3_6 : PySem.W.kitOne K (.ref C_3) (.ref C_6) = some false)
    (ki3_7 : PySem.W.kitOne K (.ref C_3) (.ref C_7) = some false)
    (ki3_8 : PySem.W.kitOne K (.ref C_3) (.ref C_8) = some false)
    (hT : h.get? Pt = some { cls := .none, data := .fields #[] }) :
    LamX.LawAtS l w K C8.CX0 9 63 "_law_script" mg fa h := by
  have e := hfa.symm.trans (PySem.W.mg_of X G a_law)
  cases e
  have D_is_number : C8.Def K mg "is_number" s_is_number f_is_number _ := ⟨⟨_, _, _, _, _, _, _, _, _, _, rfl, l_is_number, c_is_number⟩, PySem.W.mg_of X G a_is_number, k_is_number⟩
  have B_is_number := C8.Fun.binds (ps := ["value"]) D_is_number.fn rfl fun _ _ _ _ _ _ us hl => match us, hl with | [_], _ => rfl
  have D_is_range : C8.Def K mg "is_range" s_is_range f_is_range _ := ⟨⟨_, _, _, _, _, _, _, _, _, _, rfl, l_is_range, c_is_range⟩, PySem.W.mg_of X G a_is_range, k_is_range⟩
  have B_is_range := C8.Fun.binds (ps := ["least", "most", "limit"]) D_is_range.fn rfl fun _ _ _ _ _ _ us hl => match us, hl with | [_, _, _], _ => rfl
  have D_has_form : C8.Def K mg "has_form" s_has_form f_has_form _ := ⟨⟨_, _, _, _, _, _, _, _, _, _, rfl, l_has_form, c_has_form⟩, PySem.W.mg_of X G a_has_form, k_has_form⟩
  have B_has_form := C8.Fun.binds (ps := ["plan"]) D_has_form.fn rfl fun _ _ _ _ _ _ us hl => match us, hl with | [_], _ => rfl
  have D_plans_in : C8.Def K mg "plans_in" s_plans_in f_plans_in _ := ⟨⟨_, _, _, _, _, _, _, _, _, _, rfl, l_plans_in, c_plans_in⟩, PySem.W.mg_of X G a_plans_in, k_plans_in⟩
  have B_plans_in := C8.Fun.binds (ps := ["plan"]) D_plans_in.fn rfl fun _ _ _ _ _ _ us hl => match us, hl with | [_], _ => rfl
  have D_check_plan : C8.Def K mg "check_plan" s_check_plan f_check_plan _ := ⟨⟨_, _, _, _, _, _, _, _, _, _, rfl, l_check_plan, c_check_plan⟩, PySem.W.mg_of X G a_check_plan, k_check_plan⟩
  have B_check_plan := C8.Fun.binds (ps := ["plan"]) D_check_plan.fn rfl fun _ _ _ _ _ _ us hl => match us, hl with | [_], _ => rfl
  have D_run_plan : C8.Def K mg "run_plan" s_run_plan f_run_plan _ := ⟨⟨_, _, _, _, _, _, _, _, _, _, rfl, l_run_plan, c_run_plan⟩, PySem.W.mg_of X G a_run_plan, k_run_plan⟩
  have B_run_plan := C8.Fun.binds (ps := ["plan", "delays"]) D_run_plan.fn rfl fun _ _ _ _ _ _ us hl => match us, hl with | [_, _], _ => rfl
  have D_check_window : C8.Def K mg "check_window" s_check_window f_check_window _ := ⟨⟨_, _, _, _, _, _, _, _, _, _, rfl, l_check_window, c_check_window⟩, PySem.W.mg_of X G a_check_window, k_check_window⟩
  have B_check_window := C8.Fun.binds (ps := ["window"]) D_check_window.fn rfl fun _ _ _ _ _ _ us hl => match us, hl with | [_], _ => rfl
  have D_check_works : C8.Def K mg "check_works" s_check_works f_check_works _ := ⟨⟨_, _, _, _, _, _, _, _, _, _, rfl, l_check_works, c_check_works⟩, PySem.W.mg_of X G a_check_works, k_check_works⟩
  have B_check_works := C8.Fun.binds (ps := ["works"]) D_check_works.fn rfl fun _ _ _ _ _ _ us hl => match us, hl with | [_], _ => rfl
  have D_check_places : C8.Def K mg "check_places" s_check_places f_check_places _ := ⟨⟨_, _, _, _, _, _, _, _, _, _, rfl, l_check_places, c_check_places⟩, PySem.W.mg_of X G a_check_places, k_check_places⟩
  have B_check_places := C8.Fun.binds (ps := ["works", "places"]) D_check_places.fn rfl fun _ _ _ _ _ _ us hl => match us, hl with | [_, _], _ => rfl
  have D_plan_with : C8.Def K mg "plan_with" s_plan_with f_plan_with _ := ⟨⟨_, _, _, _, _, _, _, _, _, _, rfl, l_plan_with, c_plan_with⟩, PySem.W.mg_of X G a_plan_with, k_plan_with⟩
  have B_plan_with := C8.Fun.binds (ps := ["works", "places"]) D_plan_with.fn rfl fun _ _ _ _ _ _ us hl => match us, hl with | [_, _], _ => rfl
  have D_fewest : C8.Def K mg "fewest" s_fewest f_fewest _ := ⟨⟨_, _, _, _, _, _, _, _, _, _, rfl, l_fewest, c_fewest⟩, PySem.W.mg_of X G a_fewest, k_fewest⟩
  have B_fewest := C8.Fun.binds (ps := ["window", "works"]) D_fewest.fn rfl fun _ _ _ _ _ _ us hl => match us, hl with | [_, _], _ => rfl
  have D_levels_from : C8.Def K mg "levels_from" s_levels_from f_levels_from _ := ⟨⟨_, _, _, _, _, _, _, _, _, _, rfl, l_levels_from, c_levels_from⟩, PySem.W.mg_of X G a_levels_from, k_levels_from⟩
  have B_levels_from := C8.Fun.binds (ps := ["window", "works", "first"]) D_levels_from.fn rfl fun _ _ _ _ _ _ us hl => match us, hl with | [_, _, _], _ => rfl
  have D_shown : C8.Def K mg "shown" s_shown f_shown _ := ⟨⟨_, _, _, _, _, _, _, _, _, _, rfl, l_shown, c_shown⟩, PySem.W.mg_of X G a_shown, k_shown⟩
  have B_shown := C8.Fun.binds (ps := ["window", "works", "many"]) D_shown.fn rfl fun _ _ _ _ _ _ us hl => match us, hl with | [_, _, _], _ => rfl
  have D_law_start : C8.Def K mg "_law_start" s_law_start f_law_start _ := ⟨⟨_, _, _, _, _, _, _, _, _, _, rfl, l_law_start, c_law_start⟩, PySem.W.mg_of X G a_law_start, k_law_start⟩
  have B_law_start := C8.Fun.binds (ps := ["_law_script"]) D_law_start.fn rfl fun _ _ _ _ _ _ us hl => match us, hl with | [_], _ => rfl
  have D_law_drawn : C8.Def K mg "_law_drawn" s_law_drawn f_law_drawn _ := ⟨⟨_, _, _, _, _, _, _, _, _, _, rfl, l_law_drawn, c_law_drawn⟩, PySem.W.mg_of X G a_law_drawn, k_law_drawn⟩
  have B_law_drawn := C8.Fun.binds (ps := ["_law_state", "_law_many"]) D_law_drawn.fn rfl fun _ _ _ _ _ _ us hl => match us, hl with | [_, _], _ => rfl
  have D_law_same : C8.Def K mg "_law_same" s_law_same f_law_same _ := ⟨⟨_, _, _, _, _, _, _, _, _, _, rfl, l_law_same, c_law_same⟩, PySem.W.mg_of X G a_law_same, k_law_same⟩
  have B_law_same := C8.Fun.binds (ps := ["_law_found", "_law_due"]) D_law_same.fn rfl fun _ _ _ _ _ _ us hl => match us, hl with | [_, _], _ => rfl
  have D_law_kind : C8.Def K mg "_law_kind" s_law_kind f_law_kind _ := ⟨⟨_, _, _, _, _, _, _, _, _, _, rfl, l_law_kind, c_law_kind⟩, PySem.W.mg_of X G a_law_kind, k_law_kind⟩
  have B_law_kind := C8.Fun.binds (ps := ["_law_work"]) D_law_kind.fn rfl fun _ _ _ _ _ _ us hl => match us, hl with | [_], _ => rfl
  have D_law_far : C8.Def K mg "_law_far" s_law_far f_law_far _ := ⟨⟨_, _, _, _, _, _, _, _, _, _, rfl, l_law_far, c_law_far⟩, PySem.W.mg_of X G a_law_far, k_law_far⟩
  have B_law_far := C8.Fun.binds (ps := ["_law_state", "_law_most"]) D_law_far.fn rfl fun _ _ _ _ _ _ us hl => match us, hl with | [_, _], _ => rfl
  have D_law_works : C8.Def K mg "_law_works" s_law_works f_law_works _ := ⟨⟨_, _, _, _, _, _, _, _, _, _, rfl, l_law_works, c_law_works⟩, PySem.W.mg_of X G a_law_works, k_law_works⟩
  have B_law_works := C8.Fun.binds (ps := ["_law_state"]) D_law_works.fn rfl fun _ _ _ _ _ _ us hl => match us, hl with | [_], _ => rfl
  have D_law_odd : C8.Def K mg "_law_odd" s_law_odd f_law_odd _ := ⟨⟨_, _, _, _, _, _, _, _, _, _, rfl, l_law_odd, c_law_odd⟩, PySem.W.mg_of X G a_law_odd, k_law_odd⟩
  have B_law_odd := C8.Fun.binds (ps := ["_law_state", "_law_works_here"]) D_law_odd.fn rfl fun _ _ _ _ _ _ us hl => match us, hl with | [_, _], _ => rfl
  have F_Run_init : C8.Fun K "__init__" "Run.__init__" s_Run_init f_Run_init _ := ⟨_, _, _, _, _, _, _, _, _, _, rfl, l_Run_init, c_Run_init⟩
  have B_Run_init := C8.Fun.binds (ps := ["self", "delays"]) F_Run_init rfl fun _ _ _ _ _ _ us hl => match us, hl with | [_, _], _ => rfl
  have F_Run_take : C8.Fun K "take" "Run.take" s_Run_take f_Run_take _ := ⟨_, _, _, _, _, _, _, _, _, _, rfl, l_Run_take, c_Run_take⟩
  have B_Run_take := C8.Fun.binds (ps := ["self", "least", "most"]) F_Run_take rfl fun _ _ _ _ _ _ us hl => match us, hl with | [_, _, _], _ => rfl
  have F_Run_follow : C8.Fun K "follow" "Run.follow" s_Run_follow f_Run_follow _ := ⟨_, _, _, _, _, _, _, _, _, _, rfl, l_Run_follow, c_Run_follow⟩
  have B_Run_follow := C8.Fun.binds (ps := ["self", "plan"]) F_Run_follow rfl fun _ _ _ _ _ _ us hl => match us, hl with | [_, _], _ => rfl
  have F_Ring_init : C8.Fun K "__init__" "Ring.__init__" s_Ring_init f_Ring_init _ := ⟨_, _, _, _, _, _, _, _, _, _, rfl, l_Ring_init, c_Ring_init⟩
  have B_Ring_init := C8.Fun.binds (ps := ["self", "window", "works"]) F_Ring_init rfl fun _ _ _ _ _ _ us hl => match us, hl with | [_, _, _], _ => rfl
  have R : Refs K mg CD [C_0, C_1, C_2, C_3, C_4, C_5, C_6, C_7, C_8] :=
    ⟨PySem.W.mg_none_of X G z_isinstance, PySem.W.mg_none_of X G z_ValueError, PySem.W.mg_of X G aD, ⟨_, rfl, PySem.W.mg_of X G aC0⟩, ⟨_, rfl, PySem.W.mg_of X G aC1⟩, ⟨_, rfl, PySem.W.mg_of X G aC2⟩, ⟨_, rfl, PySem.W.mg_of X G aC3⟩, ⟨_, rfl, PySem.W.mg_of X G aC4⟩, ⟨_, rfl, PySem.W.mg_of X G aC5⟩, ⟨_, rfl, PySem.W.mg_of X G aC6⟩, ⟨_, rfl, PySem.W.mg_of X G aC7⟩, ⟨_, rfl, PySem.W.mg_of X G aC8⟩⟩
  have R0 : IsRef K CD [C_0, C_1, C_2, C_3, C_4, C_5, C_6, C_7, C_8] 0 C_0 := by
    refine ⟨rfl, ⟨hg0, hk0, b0, hd0, ha0, xn, xt, hm0⟩, PySem.W.exm_ref bD hD tD sD0, kv0, fun j C' e => ?_⟩
    match j, e with
    | 0, e => cases e; exact ki0_0
    | 1, e => cases e; exact ki0_1
    | 2, e => cases e; exact ki0_2
    | 3, e => cases e; exact ki0_3
    | 4, e => cases e; exact ki0_4
    | 5, e => cases e; exact ki0_5
    | 6, e => cases e; exact ki0_6
    | 7, e => cases e; exact ki0_7
    | 8, e => cases e; exact ki0_8
  have R3 : IsRef K CD [C_0, C_1, C_2, C_3, C_4, C_5, C_6, C_7, C_8] 3 C_3 := by
    refine ⟨rfl, ⟨hg3, hk3, b3, hd3, ha3, xn, xt, hm3⟩, PySem.W.exm_ref bD hD tD sD3, kv3, fun j C' e => ?_⟩
    match j, e with
    | 0, e => cases e; exact ki3_0
    | 1, e => cases e; exact ki3_1
    | 2, e => cases e; exact ki3_2
    | 3, e => cases e; exact ki3_3
    | 4, e => cases e; exact ki3_4
    | 5, e => cases e; exact ki3_5
    | 6, e => cases e; exact ki3_6
    | 7, e => cases e; exact ki3_7
    | 8, e => cases e; exact ki3_8
  have T0 : Txt K mg := ⟨PySem.W.mg_none_of X G z_isinstance, PySem.W.mg_none_of X G z_len, PySem.W.mg_none_of X G z_int, PySem.W.mg_none_of X G z_bool, PySem.W.mg_none_of X G z_range, PySem.W.mg_none_of X G z_list, PySem.W.mg_none_of X G z_tuple, PySem.W.mg_none_of X G z_str, PySem.W.mg_none_of X G z_sum⟩
  have TP : TxtP K mg := ⟨T0, ⟨_, PySem.W.mg_of X G q_LONGEST_WORK⟩, ⟨_, PySem.W.mg_of X G q_MOST_TIMES⟩, ⟨_, PySem.W.mg_of X G q_LONGEST_ROW⟩, ⟨_, PySem.W.mg_of X G q_MOST_PLANS⟩, ⟨_, PySem.W.mg_of X G q_MOST_DEEP⟩, ⟨_, PySem.W.mg_of X G q_MOST_LOOPS⟩⟩
  have T : TxtW K mg C_0 C_3 := ⟨TP, PySem.W.mg_none_of X G z_enumerate, ⟨_, PySem.W.mg_of X G q_GREATEST_HIGH⟩, ⟨_, PySem.W.mg_of X G q_MOST_WORKS⟩, PySem.W.mg_of X G aC0, x0, kk0, b0, t0, PySem.W.mg_of X G aC3, x3, kk3, b3, t3⟩
  have TR : TxtR K C_Run := ⟨⟨pg_Run, hdd_Run, po_Run, sa_Run⟩, n_Run_delays, n_Run_used, n_Run_now, n_Run_pats⟩
  refine ⟨PySem.W.fnOf "law" "law" (C8.fnArgs s_law) (C8.fnBody s_law) (C8.fnScope s_law) .none kV_law dc_law pm_law an_law (.ref cc) ct_law, [(cc, Pt)], sp_law K Pt, fun p hp => by rw [List.mem_singleton.mp hp]; exact hT, fun p hp => by rw [List.mem_singleton.mp hp]; exact nPt, fun p hp => by rw [List.mem_singleton.mp hp]; exact PySem.W.codeHd_of_K X hch, fun s u => .of_eq rfl,
    fun H a ns hl _ ht hs => ⟨a, ns, rfl, hs, hl, ht _ (List.mem_singleton.mpr rfl), fun _ => rfl⟩, fun base KB GB tb => ?_⟩
  have g0 := ok_is_number (P := l.prog) (w := w) (base := base) TP D_is_number B_is_number
  have g1 := ok_is_range TP D_is_range B_is_range g0
  have g2 := ok_has_form TP D_has_form B_has_form g1
  have g3 := ok_plans_in (P := l.prog) (w := w) (base := base) TP D_plans_in B_plans_in
  have g4 := ok_check_plan TP D_check_plan B_check_plan g2 g3
  have m1 := ok_take TP TR ⟨a_Run_take, i_Run_take, k_Run_take⟩ F_Run_take B_Run_take g0
  have m2 := ok_follow TP TR ⟨a_Run_follow, i_Run_follow, k_Run_follow⟩ F_Run_follow B_Run_follow m1 5
  have m0 := ok_init (P := l.prog) (w := w) (base := base) TP TR ⟨mk_Run, a_Run_init, i_Run_init, kc_Run⟩ (PySem.W.mg_of X G aC_Run) F_Run_init B_Run_init
  have g5 := ok_run_plan TP TR D_run_plan B_run_plan g4 m0 m2
  have r1 := ok_rangeB T D_is_range B_is_range g0
  have r2 := ok_check_window T D_check_window B_check_window r1
  have r3 := ok_check_works T D_check_works B_check_works r1
  have r4 := ok_check_places T D_check_places B_check_places g0
  have r5 := ok_plan_with T D_plan_with B_plan_with r3 r4
  have r6 := ok_ring T ⟨mk_Ring, a_Ring_init, i_Ring_init, kc_Ring⟩ (PySem.W.mg_of X G aC_Ring) F_Ring_init B_Ring_init r2 r3
  have h1 := ok_start (P := l.prog) (w := w) (base := base) T0 D_law_start B_law_start
  have h2 := ok_drawn (P := l.prog) (w := w) (base := base) T0 D_law_drawn B_law_drawn
  have h3 := ok_far T D_law_far B_law_far h2
  exact ok_law T R R0 R3 (tb _ (List.mem_singleton.mpr rfl)) l_law c_law D_law_kind B_law_kind h1 h2 h3 (ok_works T D_law_works B_law_works h2) (ok_odd T D_law_odd B_law_odd h2 h3) (fun n => ok_same T0 D_law_same B_law_same n) g5 r5 (ok_fewest T D_fewest B_fewest r6) (ok_levels_from T D_levels_from B_levels_from r6) (ok_shown T D_shown B_shown r6)
end K07
open PySem PySem.W PyProof.Rows
set_option maxRecDepth 100000 in
set_option maxHeartbeats 0 in
theorem PySem.Challenge.cw_windowdog_k07_plans_with_pats_holds : PySem.Challenge.rw_windowdog_k07_plans_with_pats.Holds := by
  w_on; o_law; k_head; (case hw => w_witness2)
  k_fill
  refine LamX.walk_ofTs (l := PySem.Challenge.rw_windowdog_k07_plans_with_pats) (n := 63) (k := 9) (x := "_law_script") (CX := fun _ => C8.CX0) rfl (by decide) rfl ⟨rfl, by decide, by decide⟩ (fun w h Y => PySem.W.km_in_of Y) ?F (fun _ _ _ _ _ z => z)
  case F =>
    intro w mg fa h Y KX G hmg
    refine' K07.law_at KX G hmg ?a_is_number ?l_is_number ?c_is_number ?k_is_number ?a_is_range ?l_is_range ?c_is_range ?k_is_range ?a_has_form ?l_has_form ?c_has_form ?k_has_form ?a_plans_in ?l_plans_in ?c_plans_in ?k_plans_in ?a_check_plan ?l_check_plan ?c_check_plan ?k_check_plan ?a_run_plan ?l_run_plan ?c_run_plan ?k_run_plan ?a_check_window ?l_check_window ?c_check_window ?k_check_window ?a_check_works ?l_check_works ?c_check_works ?k_check_works ?a_check_places ?l_check_places ?c_check_places ?k_check_places ?a_plan_with ?l_plan_with ?c_plan_with ?k_plan_with ?a_fewest ?l_fewest ?c_fewest ?k_fewest ?a_levels_from ?l_levels_from ?c_levels_from ?k_levels_from ?a_shown ?l_shown ?c_shown ?k_shown ?a_law_start ?l_law_start ?c_law_start ?k_law_start ?a_law_drawn ?l_law_drawn ?c_law_drawn ?k_law_drawn ?a_law_same ?l_law_same ?c_law_same ?k_law_same ?a_law_kind ?l_law_kind ?c_law_kind ?k_law_kind ?a_law_far ?l_law_far ?c_law_far ?k_law_far ?a_law_works ?l_law_works ?c_law_works ?k_law_works ?a_law_odd ?l_law_odd ?c_law_odd ?k_law_odd ?a_law ?l_law ?c_law ?k_law ?aC_Run ?a_Run_init ?i_Run_init ?l_Run_init ?c_Run_init ?k_Run_init ?a_Run_take ?i_Run_take ?l_Run_take ?c_Run_take ?k_Run_take ?a_Run_follow ?i_Run_follow ?l_Run_follow ?c_Run_follow ?k_Run_follow ?pg_Run ?hdd_Run ?po_Run ?sa_Run ?mk_Run ?kc_Run ?n_Run_delays ?n_Run_used ?n_Run_now ?n_Run_pats ?aC_Ring ?a_Ring_init ?i_Ring_init ?l_Ring_init ?c_Ring_init ?k_Ring_init ?pg_Ring ?hdd_Ring ?po_Ring ?sa_Ring ?mk_Ring ?kc_Ring ?lc ?v11 ?hch ?nPt ?z_isinstance ?z_len ?z_int ?z_bool ?z_range ?z_list ?z_tuple ?z_str ?z_sum ?z_ValueError ?z_enumerate ?q_LONGEST_WORK ?q_MOST_TIMES ?q_LONGEST_ROW ?q_MOST_PLANS ?q_MOST_DEEP ?q_MOST_LOOPS ?q_GREATEST_HIGH ?q_MOST_WORKS ?aD ?aC0 ?aC1 ?aC2 ?aC3 ?aC4 ?aC5 ?aC6 ?aC7 ?aC8 ?bD ?hD ?tD ?xn ?xt ?x0 ?kk0 ?b0 ?t0 ?hg0 ?hk0 ?hd0 ?ha0 ?hm0 ?sD0 ?kv0 ?ki0_0 ?ki0_1 ?ki0_2 ?ki0_3 ?ki0_4 ?ki0_5 ?ki0_6 ?ki0_7 ?ki0_8 ?x3 ?kk3 ?b3 ?t3 ?hg3 ?hk3 ?hd3 ?ha3 ?hm3 ?sD3 ?kv3 ?ki3_0 ?ki3_1 ?ki3_2 ?ki3_3 ?ki3_4 ?ki3_5 ?ki3_6 ?ki3_7 ?ki3_8 ?hT
    (case a_is_number => k_is)
    (case l_is_number => k_is)
    (case c_is_number => k_is)
    (case k_is_number => k_is)
    (case a_is_range => k_is)
    (case l_is_range => k_is)
    (case c_is_range => k_is)
    (case k_is_range => k_is)
    (case a_has_form => k_is)
    (case l_has_form => k_is)
    (case c_has_form => k_is)
    (case k_has_form => k_is)
    (case a_plans_in => k_is)
    (case l_plans_in => k_is)
    (case c_plans_in => k_is)
    (case k_plans_in => k_is)
    (case a_check_plan => k_is)
    (case l_check_plan => k_is)
    (case c_check_plan => k_is)
    (case k_check_plan => k_is)
    (case a_run_plan => k_is)
    (case l_run_plan => k_is)
    (case c_run_plan => k_is)
    (case k_run_plan => k_is)
    (case a_check_window => k_is)
    (case l_check_window => k_is)
    (case c_check_window => k_is)
    (case k_check_window => k_is)
    (case a_check_works => k_is)
    (case l_check_works => k_is)
    (case c_check_works => k_is)
    (case k_check_works => k_is)
    (case a_check_places => k_is)
    (case l_check_places => k_is)
    (case c_check_places => k_is)
    (case k_check_places => k_is)
    (case a_plan_with => k_is)
    (case l_plan_with => k_is)
    (case c_plan_with => k_is)
    (case k_plan_with => k_is)
    (case a_fewest => k_is)
    (case l_fewest => k_is)
    (case c_fewest => k_is)
    (case k_fewest => k_is)
    (case a_levels_from => k_is)
    (case l_levels_from => k_is)
    (case c_levels_from => k_is)
    (case k_levels_from => k_is)
    (case a_shown => k_is)
    (case l_shown => k_is)
    (case c_shown => k_is)
    (case k_shown => k_is)
    (case a_law_start => k_is)
    (case l_law_start => k_is)
    (case c_law_start => k_is)
    (case k_law_start => k_is)
    (case a_law_drawn => k_is)
    (case l_law_drawn => k_is)
    (case c_law_drawn => k_is)
    (case k_law_drawn => k_is)
    (case a_law_same => k_is)
    (case l_law_same => k_is)
    (case c_law_same => k_is)
    (case k_law_same => k_is)
    (case a_law_kind => k_is)
    (case l_law_kind => k_is)
    (case c_law_kind => k_is)
    (case k_law_kind => k_is)
    (case a_law_far => k_is)
    (case l_law_far => k_is)
    (case c_law_far => k_is)
    (case k_law_far => k_is)
    (case a_law_works => k_is)
    (case l_law_works => k_is)
    (case c_law_works => k_is)
    (case k_law_works => k_is)
    (case a_law_odd => k_is)
    (case l_law_odd => k_is)
    (case c_law_odd => k_is)
    (case k_law_odd => k_is)
    (case a_law => k_is)
    (case l_law => k_is)
    (case c_law => k_is)
    (case k_law => k_is)
    (case aC_Run => k_is)
    (case a_Run_init => k_is)
    (case i_Run_init => k_is)
    (case l_Run_init => k_is)
    (case c_Run_init => k_is)
    (case k_Run_init => k_is)
    (case a_Run_take => k_is)
    (case i_Run_take => k_is)
    (case l_Run_take => k_is)
    (case c_Run_take => k_is)
    (case k_Run_take => k_is)
    (case a_Run_follow => k_is)
    (case i_Run_follow => k_is)
    (case l_Run_follow => k_is)
    (case c_Run_follow => k_is)
    (case k_Run_follow => k_is)
    (case pg_Run => k_is)
    (case hdd_Run => k_is)
    (case po_Run => k_is)
    (case sa_Run => k_is)
    (case mk_Run => k_is)
    (case kc_Run => k_is)
    (case n_Run_delays => k_is)
    (case n_Run_used => k_is)
    (case n_Run_now => k_is)
    (case n_Run_pats => k_is)
    (case aC_Ring => k_is)
    (case a_Ring_init => k_is)
    (case i_Ring_init => k_is)
    (case l_Ring_init => k_is)
    (case c_Ring_init => k_is)
    (case k_Ring_init => k_is)
    (case pg_Ring => k_is)
    (case hdd_Ring => k_is)
    (case po_Ring => k_is)
    (case sa_Ring => k_is)
    (case mk_Ring => k_is)
    (case kc_Ring => k_is)
    (case lc => k_is)
    (case v11 => exact rfl)
    (case hch => kernel_rfl)
    (case nPt => kernel_rfl)
    (case z_isinstance => k_is)
    (case z_len => k_is)
    (case z_int => k_is)
    (case z_bool => k_is)
    (case z_range => k_is)
    (case z_list => k_is)
    (case z_tuple => k_is)
    (case z_str => k_is)
    (case z_sum => k_is)
    (case z_ValueError => k_is)
    (case z_enumerate => k_is)
    (case q_LONGEST_WORK => k_is)
    (case q_MOST_TIMES => k_is)
    (case q_LONGEST_ROW => k_is)
    (case q_MOST_PLANS => k_is)
    (case q_MOST_DEEP => k_is)
    (case q_MOST_LOOPS => k_is)
    (case q_GREATEST_HIGH => k_is)
    (case q_MOST_WORKS => k_is)
    (case aD => k_is)
    (case aC0 => k_is)
    (case aC1 => k_is)
    (case aC2 => k_is)
    (case aC3 => k_is)
    (case aC4 => k_is)
    (case aC5 => k_is)
    (case aC6 => k_is)
    (case aC7 => k_is)
    (case aC8 => k_is)
    (case bD => k_is)
    (case hD => k_is)
    (case tD => k_is)
    (case xn => k_is)
    (case xt => k_is)
    (case x0 => k_exc)
    (case kk0 => k_is)
    (case b0 => k_is)
    (case t0 => k_is)
    (case hg0 => k_is)
    (case hk0 => k_is)
    (case hd0 => k_is)
    (case ha0 => k_is)
    (case hm0 => k_is)
    (case sD0 => k_is)
    (case kv0 => kernel_rfl)
    (case ki0_0 => kernel_rfl)
    (case ki0_1 => kernel_rfl)
    (case ki0_2 => kernel_rfl)
    (case ki0_3 => kernel_rfl)
    (case ki0_4 => kernel_rfl)
    (case ki0_5 => kernel_rfl)
    (case ki0_6 => kernel_rfl)
    (case ki0_7 => kernel_rfl)
    (case ki0_8 => kernel_rfl)
    (case x3 => k_exc)
    (case kk3 => k_is)
    (case b3 => k_is)
    (case t3 => k_is)
    (case hg3 => k_is)
    (case hk3 => k_is)
    (case hd3 => k_is)
    (case ha3 => k_is)
    (case hm3 => k_is)
    (case sD3 => k_is)
    (case kv3 => kernel_rfl)
    (case ki3_0 => kernel_rfl)
    (case ki3_1 => kernel_rfl)
    (case ki3_2 => kernel_rfl)
    (case ki3_3 => kernel_rfl)
    (case ki3_4 => kernel_rfl)
    (case ki3_5 => kernel_rfl)
    (case ki3_6 => kernel_rfl)
    (case ki3_7 => kernel_rfl)
    (case ki3_8 => kernel_rfl)
    (case hT => exact PySem.W.km_tabs_of Y _ (by k_mem))
