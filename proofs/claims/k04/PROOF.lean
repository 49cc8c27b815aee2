import PyProof.Rows.All
import Wide.All
import OpenK.AllK
import Wide.FinOn
import HandS.ForMost
import HandS.ForExc
import HandS.Codes
import HandS.Lambda
import HandS.EndTab
import HandS.IsInst
import HandS.ExcIs
import HandS.Wide
import HandS.SetFor
import HandS.TupMul
import HandS.Conv
import HandS.ExcInit
import HandS.ClsMeth
import HandS.FStr
import HandS.Dict
import HandS.ExcField
import PySem.Challenge.RW_windowdog_k04_delays_refused
set_option Elab.async false
set_option linter.all false
set_option maxRecDepth 100000
set_option maxHeartbeats 4000000
/-! The readings step by step; heaps in which one list (the drawing's) changes. -/
namespace Wd
open PySem PySem.Spec PyProof.Rows L2

/-! ### rules -/
section
variable {X : Cx} {a b c d : Expr} {ta tb tc td : TE} {pos : Pos}
def tChain3 (r r' r2 : R2) (ta tb tc td : TE) : TE := fun σ H Q => ta σ H fun x H1 => tb σ H1 fun y H2 => r x y H2 fun z H3 => ∃ k, z = .bl k ∧
  (if k = true then tc σ H3 fun w' H4 => r' y w' H4 fun z2 H5 => ∃ k2, z2 = .bl k2 ∧ (if k2 = true then td σ H5 fun w2 H6 => r2 w' w2 H6 Q else Q (.bl false) H5) else Q (.bl false) H3)
theorem pe_chain3 {op op' op2 : CmpOp} {r r' r2 : R2} (ho : OpR X (compareOp op) r) (ho' : OpR X (compareOp op') r') (ho2 : OpR X (compareOp op2) r2) (ha : PE X a ta) (hb : PE X b tb) (hc : PE X c tc) (hd : PE X d td)
    (hm : lastMarks [op, op', op2] [b, c, d] = false := by with_unfolding_all rfl) : PE X (.Compare a [op, op', op2] [b, c, d] pos) (tChain3 r r' r2 ta tb tc td) := by
  refine ⟨fun pins s σ H Q I h => ?_⟩
  refine Compare_chain (thn (ha.run pins s σ H _ I h) fun v s1 ⟨x, H1, I1, r1, q1⟩ => chain_link (thn (hb.run pins s1 σ H1 _ I1 q1) fun u s2 ⟨y, H2, I2, r2, q2⟩ =>
    thn (ho pins s2 σ H2 x y v u _ I2 r1 r2 q2) fun d s3 ⟨z, H3, I3, r3, k, e, q3⟩ => ?_)) hm
  subst e
  cases r3
  refine wpAny_truthy_bool ?_
  cases k with
  | false => exact ite_ff ⟨.bl false, H3, I3, rfl, q3⟩
  | true =>
    refine ite_tt (chain_link (thn (hc.run pins s3 σ H3 _ I3 q3) fun w' s4 ⟨z', H4, I4, r4, q4⟩ => thn (ho' pins s4 σ H4 y z' u w' _ I4 r2 r4 q4) fun d5 s5 ⟨z5, H5, I5, r5, k5, e5, q5⟩ => ?_))
    subst e5
    cases r5
    refine wpAny_truthy_bool ?_
    cases k5 with
    | false => exact ite_ff ⟨.bl false, H5, I5, rfl, q5⟩
    | true => exact ite_tt (chain_last (thn (hd.run pins s5 σ H5 _ I5 q5) fun w6 s6 ⟨z6, H6, I6, r6, q6⟩ => ho2 pins s6 σ H6 z' z6 w' w6 Q I6 r4 r6 q6))
end

section
variable {X : Cx} {K : PySem.W.Frag} {name : Str} {T id : String} {r : V → List V → Hp → VK → Prop} {o e : Expr} {es : List Expr} {to : TE} {t : TA} {apos cpos : Pos}
theorem pe_bmK (hK : X.K = K) (pa : PlainAttrs T) (slot : Slot T name id) (hty : typeOf (.builtin id) = pure (.type "method_descriptor")) (hm : MtR X id r) (ho : PE X o to) (ha : PA X (e :: es) t)
    (hbase : attributeBase o name X.env (eval o X.env) = eval o X.env := by rfl)
    (hfew : ((backTo cpos (starEach (e :: es) X.env)).all (fun x => !x.1) && (backToKw cpos (keywordEach [] X.env)).all (fun x => x.1.isSome)
      && decide ((e :: es).length + ([] : List Keyword).length + (if ([] : List Keyword).isEmpty then 0 else 1) < 30)) = true := by rfl)
    (hline : (apos.endLine == cpos.line) = true := by rfl) (hs : starEach (e :: es) X.env = (false, eval e X.env) :: starEach es X.env := by rfl) (hplain : (backTo cpos (starEach es X.env)).any (·.1) = false := by rfl) : PE X (.Call (.Attribute o name apos) (e :: es) [] cpos) (tBM K T r to t) := by
  subst hK; exact pe_bm pa slot hty hm ho ha hbase hfew hline hs hplain
theorem pe_bm0K (hK : X.K = K) (pa : PlainAttrs T) (slot : Slot T name id) (hty : typeOf (.builtin id) = pure (.type "method_descriptor")) (hm : MtR X id r) (ho : PE X o to)
    (hbase : attributeBase o name X.env (eval o X.env) = eval o X.env := by rfl) (hline : (apos.endLine == cpos.line) = true := by rfl) : PE X (.Call (.Attribute o name apos) [] [] cpos) (tBM0 K T r to) := by
  subst hK; exact pe_bm0 pa slot hty hm ho hbase hline
end

/-- a def of the module that may let an exception out -/
structure CalX (P : Program) (w : World) (K : PySem.W.Frag) (mg : Str → Option Value) (base : Heap) (k : Nat) (x : Str) (sp : Sp) : Prop where
  ex : ∃ (f : Addr) (fd : FuncData) (ps : List Str), FnOk P w K mg base (L2.CX P w) k f fd ps sp ∧ mg x = some (.ref f) ∧ PySem.W.keepIn K (.ref f) = true ∧ Binds K fd ps []
section
variable {X : Cx} {k j : Nat} {x : Str} {sp : Sp} {p pos : Pos} {e : Expr} {es : List Expr} {t : TA} {E : L2.St → XK}
theorem pe_cX (c : CalX X.prog X.w X.K X.mg X.base k x sp) (hr : Room j X.A) (hk : k ≤ j) (hg : Gl X x) (hx : ∀ σ, PassesAt (L2.CX X.prog X.w) X σ (E σ)) (ha : PA X (e :: es) t)
    (hdb : (x == ("__debug__" : Str)) = false := by decide) (he : starEach (e :: es) X.env = (false, eval e X.env) :: starEach es X.env := by rfl) (hpl : (backTo pos (starEach es X.env)).any (·.1) = false := by rfl) :
    PE X (.Call (.Name x p) (e :: es) [] pos) (tCallS sp E t) := by
  obtain ⟨f, fd, ps, F, hm, kp, b⟩ := c.ex
  exact pe_callS F (hr.mono hk) hg hm kp b hx ha hdb he hpl
end
section
variable {P : Program} {w : World} {K : PySem.W.Frag} {mg : Str → Option Value} {base : Heap}
/-- a def by its body, which may let an exception out -/
theorem calX {x : Str} {st : Stmt} {f : Addr} {fd : FuncData} {N ps : List Str} {k : Nat} {sp : Sp} (F : C8.Def K mg x st f fd) (b : Binds K fd ps []) (S : FnScope N ps (C8.fnScope st)) (len : ∀ vs H Q E, sp vs H Q E → vs.length = ps.length)
    (hbody : ∀ (cdv : Value) (A : Around) (outer : List Env) (s : Shared) (H : Hp) (vs : List V) (Q : VK) (E : XK), Room k (A.deeper (envOfC x (C8.fnScope st) s.heap.objs.size f cdv)) → sp vs H Q E →
      ∃ t, PSs (cxOf (L2.CX P w) P w K mg base N x (C8.fnScope st) f cdv A outer s H E) (C8.fnBody st) t ∧ t { nx := fun _ H' => Q .non H', rt := Q } (L2.start N vs) H) : CalX P w K mg base (k + 1) x sp := by
  refine ⟨f, fd, ps, ?_, F.mgf, F.kp, b⟩
  obtain ⟨oc, od, dV, kV, doc, pm, an, cdv, ct, osl, rfl, lk, hcd⟩ := F.fn.ex
  exact fn_of lk hcd S len fun A outer s H vs Q E hr hsp => hbody cdv A outer s H vs Q E hr hsp
end

/-! ### list.count of flat items -/
section
variable {X : Cx}
theorem count_eqU {x : V} : ∀ {xs : List V} {us : List Value}, Vals xs us → xs.all flatV = true → us.countP (eqU x) = xs.countP fun y => eqV y x
  | _, _, .nil, _ => rfl
  | y :: xs, u :: us, .cons r t, f => by
    rw [List.all_cons, Bool.and_eq_true] at f
    rw [List.countP_cons, List.countP_cons, eqU_of r f.1, count_eqU t f.2]
def rCntV (K : PySem.W.Frag) : V → List V → Hp → VK → Prop := fun x xs H Q => ∃ (p : Addr) (ys : List V) (y : V), x = .ref p ∧ xs = [y] ∧ SqL K H p ys ∧ flatV y = true ∧ ys.all flatV = true ∧ Q (.int ((ys.countP fun z => eqV z y : Nat) : Int)) H
theorem mt_lcountV : MtR X "list.count" (rCntV X.K) := by
  intro pins s σ H x xs v us Q I rx rxs h
  obtain ⟨p, ys, y, rfl, rfl, hs, fy, fys, q⟩ := h
  cases rx
  obtain ⟨u, rfl, ru⟩ := rxs.one
  obtain ⟨its, rv, ⟨⟨cls, dd, data, sl⟩, n, ho, hc, hdn, hd⟩, hlen⟩ := I.list hs
  simp only at hc hd
  subst hc hd
  refine call_meets PySem.F.slot_list_count ⟨_, ho, rfl⟩ PySem.F.entry_list_count (PySem.F.args_list_count_2 _ _)
    (SeqAt.list_countAt p its.toArray n dd sl u (eqU y)) ⟨ho, fun u' hu' => mem_eqAt ru fy rv fys u' (by simpa using hu'), ?_⟩
  have ec : its.toArray.toList.countP (eqU y) = ys.countP fun z => eqV z y := count_eqU rv fys
  refine ⟨.int (ys.countP fun z => eqV z y : Nat), H, I.tok _, ⟨s.toks, ?_⟩, q⟩
  show Value.int ((its.toArray.toList.countP (eqU y) : Nat) : Int) s.toks = Value.int ((ys.countP fun z => eqV z y : Nat) : Int) s.toks
  rw [ec]
end

/-! ### isinstance of a caught error, its class told by the reading -/
def rIsE2 (K : PySem.W.Frag) (cls : Value) (d : Option Addr) (a : Addr) : List V → Hp → VK → Prop := fun xs H Q => ∃ (D : Addr) (c : V) (cv : Value) (b : Bool), cls = .ref D ∧ d = none ∧ ExcC K D ∧ xs = [.ref a, c] ∧ (∀ u, RelV c u → u = cv) ∧ PySem.W.kitOne K (.ref D) cv = some b ∧ Q (.bl b) H
theorem call_isE2 {X : Cx} {a : Addr} {cls : Value} {d : Option Addr} {oe : Obj} {pn : List (Addr × Obj)} (hz : Zc cls d oe) (hf : ∃ vs, oe.data = .fields vs) : CallR (X.suite a ((a, oe) :: pn)) (.builtin "isinstance") (rIsE2 X.K cls d a) := by
  intro pins s σ H xs us Q I r h
  obtain ⟨D, c, cv, b, rfl, rfl, C, e, hcv, hk, q⟩ := h
  exact call_isE C hz hf pins s σ H xs us Q I r ⟨c, cv, b, e, hcv, hk, q⟩

/-- where an exception is, the slots are as many as the names -/
theorem takes_len {X : Cx} {W : WX} (t : Takes X W) : Takes X (fun c d σ H => σ.length = X.N.length → W c d σ H) := fun u s' x => by
  obtain ⟨a, B, sI, pins, σ, H, cls, d, e, I, x1, x2, x3, x4, x5, x6, q⟩ := x
  exact t u s' ⟨a, B, sI, pins, σ, H, cls, d, e, I, x1, x2, x3, x4, x5, x6, q I.len⟩

/-! ### built-ins by name -/
def rLen (K : PySem.W.Frag) : List V → Hp → VK → Prop := fun xs H Q => ∃ p ys, xs = [.ref p] ∧ (SqL K H p ys ∨ SqT K H p ys) ∧ Q (.int ys.length) H
theorem call_len1 {X : Cx} : CallR X (.builtin "len") (rLen X.K) := call_len_seq
def rListOf (K : PySem.W.Frag) : List V → Hp → VK → Prop := fun xs H Q => ∃ p ys, xs = [.ref p] ∧ (SqL K H p ys ∨ SqT K H p ys) ∧ ∀ l, H l = none → Q (.ref l) (upd H l (.lst ys))
theorem call_list1 {X : Cx} : CallR X (.type "list") (rListOf X.K) := call_list_of
def rMax2 : List V → Hp → VK → Prop := fun xs H Q => ∃ i j, xs = [.int i, .int j] ∧ Q (.int (if j > i then j else i)) H
theorem call_max1 {X : Cx} (hc : X.calm = true) : CallR X (.builtin "max") rMax2 := call_max2 hc
def rMin2 : List V → Hp → VK → Prop := fun xs H Q => ∃ i j, xs = [.int i, .int j] ∧ Q (.int (if j < i then j else i)) H
theorem call_min1 {X : Cx} (hc : X.calm = true) : CallR X (.builtin "min") rMin2 := call_min2 hc
def rInt1 : List V → Hp → VK → Prop := fun xs H Q => (∃ i, xs = [.int i] ∧ Q (.int i) H) ∨ ∃ k, xs = [.bl k] ∧ Q (.int (if k then 1 else 0)) H
theorem call_intB {X : Cx} : CallR X (.type "int") rInt1 := call_int1

def rIsN : R2 := fun x y H Q => y = .non ∧ Q (.bl (decide (x = .non))) H
theorem op_isN1 {X : Cx} : OpR X (compareOp .Is) rIsN := op_isN
def rNotN : R2 := fun x y H Q => y = .non ∧ Q (.bl (!decide (x = .non))) H
theorem op_notN1 {X : Cx} : OpR X (compareOp .IsNot) rNotN := op_notN

/-! ### steps -/
section
variable {σ : L2.St} {H : Hp} {Q : VK} {QB : Bool → Hp → Prop} {QA : List V → Hp → Prop} {i : Nat} {v x y : V} {ta tb tc te : TE} {t u : TT} {ts us : TS} {D : Ends} {n m : Int} {K : PySem.W.Frag} {r r' r2 : R2}
theorem g_var (h : σ[i]? = some (some v)) (q : Q v H) : tVar i σ H Q := ⟨v, h, q⟩
theorem g_c (q : Q v H) : tC v σ H Q := q
theorem g_op (h : ta σ H fun x H1 => tb σ H1 fun y H2 => r x y H2 Q) : tOp r ta tb σ H Q := h
theorem g_un {r : V → Hp → VK → Prop} (h : ta σ H fun x H1 => r x H1 Q) : tUn r ta σ H Q := h
theorem g_I0 {g : Int → Int → V} (q : Q (g n m) H) : rI0 g (.int n) (.int m) H Q := ⟨n, m, rfl, rfl, q⟩
theorem g_I {C : Int → Int → Prop} {g : Int → Int → V} (c : C n m) (q : Q (g n m) H) : rI C g (.int n) (.int m) H Q := ⟨n, m, rfl, rfl, c, q⟩
theorem g_U {g : Int → V} (q : Q (g n) H) : rU g (.int n) H Q := ⟨n, rfl, q⟩
theorem g_eqI (q : Q (.bl (decide (n = m))) H) : rEq (.int n) (.int m) H Q := ⟨rfl, by
  have e : decide (V.int n = V.int m) = decide (n = m) := by by_cases h : n = m <;> simp [h]
  rw [e]; exact q⟩
theorem g_neI (q : Q (.bl (!decide (n = m))) H) : rNe (.int n) (.int m) H Q := ⟨rfl, by
  have e : decide (V.int n = V.int m) = decide (n = m) := by by_cases h : n = m <;> simp [h]
  rw [e]; exact q⟩
theorem g_eqS {a b : Str} (q : Q (.bl (decide (a = b))) H) : rEq (.str a) (.str b) H Q := ⟨rfl, by
  have e : decide (V.str a = V.str b) = decide (a = b) := by by_cases h : a = b <;> simp [h]
  rw [e]; exact q⟩
theorem g_neS {a b : Str} (q : Q (.bl (!decide (a = b))) H) : rNe (.str a) (.str b) H Q := ⟨rfl, by
  have e : decide (V.str a = V.str b) = decide (a = b) := by by_cases h : a = b <;> simp [h]
  rw [e]; exact q⟩
theorem g_eqB {a b : Bool} (q : Q (.bl (a == b)) H) : rEq (.bl a) (.bl b) H Q := ⟨rfl, by
  have e : decide (V.bl a = V.bl b) = (a == b) := by cases a <;> cases b <;> rfl
  rw [e]; exact q⟩
theorem g_neB {a b : Bool} (q : Q (.bl (a != b)) H) : rNe (.bl a) (.bl b) H Q := ⟨rfl, by
  have e : (!decide (V.bl a = V.bl b)) = (a != b) := by cases a <;> cases b <;> rfl
  rw [e]; exact q⟩
theorem g_isN (q : Q (.bl (decide (x = .non))) H) : rIsN x .non H Q := ⟨rfl, q⟩
theorem g_notN (q : Q (.bl (!decide (x = .non))) H) : rNotN x .non H Q := ⟨rfl, q⟩
theorem g_test (h : te σ H fun x H' => ∃ k, x = .bl k ∧ QB k H') : tTest te σ H QB := h
theorem g_tB (h : te σ H fun x H' => ∃ k, x = .bl k ∧ QB k H') : tB te σ H QB := h
theorem g_bl {b : Bool} (q : QB b H) : ∃ k, V.bl b = .bl k ∧ QB k H := ⟨b, rfl, q⟩
theorem g_and (h : t σ H fun c H1 => if c = true then u σ H1 QB else QB false H1) : tAnd t u σ H QB := h
theorem g_or (h : t σ H fun c H1 => if c = true then QB true H1 else u σ H1 QB) : tOr t u σ H QB := h
theorem g_not (h : t σ H fun c H1 => QB (!c) H1) : tNot t σ H QB := h
theorem g_andV (h : ta σ H fun x H1 => ∃ c, x = .bl c ∧ if c = true then tb σ H1 Q else Q (.bl false) H1) : tAndV ta tb σ H Q := h
theorem g_orV (h : ta σ H fun x H1 => ∃ c, x = .bl c ∧ if c = true then Q (.bl true) H1 else tb σ H1 Q) : tOrV ta tb σ H Q := h
theorem g_notV (h : ta σ H fun x H1 => ∃ c, x = .bl c ∧ Q (.bl (!c)) H1) : tNotV ta σ H Q := h
theorem g_blI {b : Bool} {p : Bool → Prop} (q : p b) : ∃ k, V.bl b = .bl k ∧ p k := ⟨b, rfl, q⟩
theorem g_if (h : t σ H fun c H1 => if c = true then ta σ H1 Q else tb σ H1 Q) : tIf t ta tb σ H Q := h
theorem g_chain (h : ta σ H fun x H1 => tb σ H1 fun y H2 => r x y H2 fun z H3 => ∃ k, z = .bl k ∧ (if k = true then tc σ H3 fun w' H4 => r' y w' H4 Q else Q (.bl false) H3)) : tChain r r' ta tb tc σ H Q := h
theorem g_chain3 {td : TE} (h : ta σ H fun x H1 => tb σ H1 fun y H2 => r x y H2 fun z H3 => ∃ k, z = .bl k ∧
  (if k = true then tc σ H3 fun w' H4 => r' y w' H4 fun z2 H5 => ∃ k2, z2 = .bl k2 ∧ (if k2 = true then td σ H5 fun w2 H6 => r2 w' w2 H6 Q else Q (.bl false) H5) else Q (.bl false) H3)) : tChain3 r r' r2 ta tb tc td σ H Q := h
theorem g_nil (q : QA [] H) : tNil σ H QA := q
theorem g_cons {tr : TA} (h : ta σ H fun x H1 => tr σ H1 fun xs H2 => QA (x :: xs) H2) : tCons ta tr σ H QA := h
theorem g_tup {tr : TA} (h : tr σ H fun xs H1 => xs.length ≤ sizeLine ∧ ∀ p, H1 p = none → Q (.ref p) (upd H1 p (.tup xs))) : tTup tr σ H Q := h
theorem g_lst {tr : TA} (h : tr σ H fun xs H1 => xs.length ≤ sizeLine ∧ ∀ p, H1 p = none → Q (.ref p) (upd H1 p (.lst xs))) : tLst tr σ H Q := h
theorem g_CB {r : List V → Hp → VK → Prop} {tr : TA} (h : tr σ H fun vs H1 => r vs H1 Q) : tCB r tr σ H Q := h
theorem g_call {sp : Sp} {dvs : List V} {E : XK} {tr : TA} (h : tr σ H fun vs H1 => sp (vs ++ dvs) H1 Q E) : tCall sp dvs E tr σ H Q := h
theorem g_callS {sp : Sp} {E : L2.St → XK} {tr : TA} (h : tr σ H fun vs H1 => sp vs H1 Q (E σ)) : tCallS sp E tr σ H Q := h
theorem g_bm {T : String} {r : V → List V → Hp → VK → Prop} {tr : TA} (h : ta σ H fun x H1 => tyV K T x H1 ∧ tr σ H1 fun xs H2 => r x xs H2 Q) : tBM K T r ta tr σ H Q := h
theorem g_bm0 {T : String} {r : V → List V → Hp → VK → Prop} (h : ta σ H fun x H1 => tyV K T x H1 ∧ r x [] H1 Q) : tBM0 K T r ta σ H Q := h
theorem g_sl {r : V → Option Int → Option Int → Hp → VK → Prop} {tl th : TO} (h : te σ H fun x H1 => tl σ H1 fun l H2 => th σ H2 fun u H3 => r x l u H3 Q) : tSl r te tl th σ H Q := h
theorem g_part {QO : Option Int → Hp → Prop} (h : te σ H fun x H1 => ∃ i, x = .int i ∧ QO (some i) H1) : tPart te σ H QO := h
theorem g_part1 {p : Int → Prop} (h : p n) : ∃ i, V.int n = .int i ∧ p i := ⟨n, rfl, h⟩
theorem g_noPart {QO : Option Int → Hp → Prop} (h : QO none H) : tNoPart σ H QO := h
-- statements
theorem g_seq {a : L2.St → Hp → Prop} {b : VK} {c d : L2.St → Hp → Prop} (h : ts ⟨us ⟨a, b, c, d⟩, b, c, d⟩ σ H) : tSeq ts us ⟨a, b, c, d⟩ σ H := h
theorem g_fit {xs : List V} {R : Addr → Prop} (hl : Nat.ble xs.length 1000 = true) (q : ∀ p, H p = none → R p) : xs.length ≤ sizeLine ∧ ∀ p, H p = none → R p := ⟨Nat.le_trans (Nat.le_of_ble_eq_true hl) (by decide), q⟩
theorem g_next (h : D.nx σ H) : tNext D σ H := h
theorem g_asg {g : TG} (h : te σ H fun x H1 => g x σ H1 D.nx) : tAsg te g D σ H := h
theorem g_name {Qg : L2.St → Hp → Prop} (h : Qg (σ.set i (some v)) H) : gName i v σ H Qg := h
theorem g_sub {to ti : TE} {t : TSet} {Qg : L2.St → Hp → Prop} (h : to σ H fun o H1 => ti σ H1 fun i H2 => t o i v H2 fun H3 => Qg σ H3) : gSub to ti t v σ H Qg := h
theorem g_gnil {Qg : L2.St → Hp → Prop} (h : Qg σ H) : gNil [] σ H Qg := ⟨rfl, h⟩
theorem g_gcons {tg : TG} {ug : TGs} {vs : List V} {Qg : L2.St → Hp → Prop} (h : tg v σ H fun σ' H' => ug vs σ' H' Qg) : gCons tg ug (v :: vs) σ H Qg := ⟨v, vs, rfl, h⟩
theorem g_drop (h : te σ H fun _ H1 => D.nx σ H1) : tDrop te D σ H := h
theorem g_ret (h : te σ H D.rt) : tRet te D σ H := h
theorem g_retN (h : D.rt .non H) : tRetN D σ H := h
theorem g_brk (h : D.bk σ H) : tBreak D σ H := h
theorem g_cont (h : D.ct σ H) : tCont D σ H := h
theorem g_ifS (h : t σ H fun b H1 => if b = true then ts D σ H1 else us D σ H1) : tIfS t ts us D σ H := h
theorem g_nx {a : L2.St → Hp → Prop} {b : VK} {c d : L2.St → Hp → Prop} (h : a σ H) : Ends.nx ⟨a, b, c, d⟩ σ H := h
theorem g_bk {a : L2.St → Hp → Prop} {b : VK} {c d : L2.St → Hp → Prop} (h : c σ H) : Ends.bk ⟨a, b, c, d⟩ σ H := h
theorem g_ct {a : L2.St → Hp → Prop} {b : VK} {c d : L2.St → Hp → Prop} (h : d σ H) : Ends.ct ⟨a, b, c, d⟩ σ H := h
theorem g_rt {a : L2.St → Hp → Prop} {b : VK} {c d : L2.St → Hp → Prop} (h : b v H) : Ends.rt ⟨a, b, c, d⟩ v H := h
theorem g_rng1 {tr : TA} {R : It → Hp → Prop} (h : tr σ H fun vs H1 => ∃ j : Int, vs = [.int j] ∧ -(2 ^ 62) ≤ j ∧ j < 2 ^ 62 ∧ R (Itr 0 j.toNat) H1) : iRng1 tr σ H R := h
theorem g_rng2 {tr : TA} {R : It → Hp → Prop} (h : tr σ H fun vs H1 => ∃ i j : Int, vs = [.int i, .int j] ∧ (-(2 ^ 62) ≤ i ∧ i < 2 ^ 62 ∧ -(2 ^ 62) ≤ j ∧ j < 2 ^ 62) ∧ R (Itr i (j - i).toNat) H1) : iRng2 tr σ H R := h
theorem g_iList {R : It → Hp → Prop} (h : te σ H fun x H1 => ∃ a, x = .ref a ∧ (∃ xs, SqL K H1 a xs) ∧ R (Itl K a) H1) : iList K te σ H R := h
theorem g_iTup {R : It → Hp → Prop} (h : te σ H fun x H1 => ∃ a, x = .ref a ∧ (∃ xs, SqT K H1 a xs) ∧ R (Itt K a) H1) : iTup K te σ H R := h
def ForEnd (g : TG) (tb : TS) (a : L2.St → Hp → Prop) (b : VK) (σ : L2.St) (J : It) (H1 : Hp) : Prop := ∃ W : Nat → Nat → L2.St → Hp → Prop, (∃ m, W 0 m σ H1) ∧ ∀ i m σ H, W i m σ H →
  (J.stop i H ∧ a σ H) ∨ (J.go i H ∧ ∃ N : L2.St → Hp → Prop, (∀ σ' H', N σ' H' → ∃ m', m' < m ∧ W (i + 1) m' σ' H') ∧ ∀ x H', J.yld i H x H' → g x σ H' fun σ2 H2 => tb ⟨N, b, a, N⟩ σ2 H2)
theorem g_for {a : L2.St → Hp → Prop} {b : VK} {c d : L2.St → Hp → Prop} {wi : TI} {g : TG} {tb : TS} (h : wi σ H (ForEnd g tb a b σ)) : tFor wi g tb ⟨a, b, c, d⟩ σ H := h
theorem w_list {a : L2.St → Hp → Prop} {b : VK} {g : TG} {tb : TS} {p : Addr} {xs : List V} (Pv : Nat → L2.St → Hp → Prop) (h0 : Pv 0 σ H) (hl : ∀ i σ H, i ≤ xs.length → Pv i σ H → SqL K H p xs)
    (hs : ∀ i x σ H, xs[i]? = some x → Pv i σ H → g x σ H fun σ2 H2 => tb ⟨Pv (i + 1), b, a, Pv (i + 1)⟩ σ2 H2) (hd : ∀ σ H, Pv xs.length σ H → a σ H) : ∃ q, V.ref p = .ref q ∧ (∃ xs, SqL K H q xs) ∧ ForEnd g tb a b σ (Itl K q) H :=
  ⟨p, rfl, ⟨xs, hl 0 σ H (Nat.zero_le _) h0⟩, for_list (D := ⟨a, b, fun _ _ => False, fun _ _ => False⟩) Pv h0 hl hs hd⟩
theorem w_tup {a : L2.St → Hp → Prop} {b : VK} {g : TG} {tb : TS} {p : Addr} {xs : List V} (Pv : Nat → L2.St → Hp → Prop) (h0 : Pv 0 σ H) (hl : ∀ i σ H, i ≤ xs.length → Pv i σ H → SqT K H p xs)
    (hs : ∀ i x σ H, xs[i]? = some x → Pv i σ H → g x σ H fun σ2 H2 => tb ⟨Pv (i + 1), b, a, Pv (i + 1)⟩ σ2 H2) (hd : ∀ σ H, Pv xs.length σ H → a σ H) : ∃ q, V.ref p = .ref q ∧ (∃ xs, SqT K H q xs) ∧ ForEnd g tb a b σ (Itt K q) H :=
  ⟨p, rfl, ⟨xs, hl 0 σ H (Nat.zero_le _) h0⟩, for_tup (D := ⟨a, b, fun _ _ => False, fun _ _ => False⟩) Pv h0 hl hs hd⟩
/-- range(n) -/
theorem w_range {a : L2.St → Hp → Prop} {b : VK} {g : TG} {tb : TS} {n : Int} (h1 : -(2 ^ 62) ≤ n) (h2 : n < 2 ^ 62) (Pv : Nat → L2.St → Hp → Prop) (h0 : Pv 0 σ H)
    (hs : ∀ i σ H, i < n.toNat → Pv i σ H → g (.int i) σ H fun σ2 H2 => tb ⟨Pv (i + 1), b, a, Pv (i + 1)⟩ σ2 H2) (hd : ∀ σ H, Pv n.toNat σ H → a σ H) :
    ∃ j : Int, [V.int n] = [.int j] ∧ -(2 ^ 62) ≤ j ∧ j < 2 ^ 62 ∧ ForEnd g tb a b σ (Itr 0 j.toNat) H :=
  ⟨n, rfl, h1, h2, for_range (D := ⟨a, b, fun _ _ => False, fun _ _ => False⟩) Pv h0 (fun i σ H hi p => by have q := hs i σ H hi p; rw [Int.zero_add]; exact q) hd⟩
theorem w_while {a : L2.St → Hp → Prop} {b : VK} {c d : L2.St → Hp → Prop} {tc : TT} {tb : TS} (Pv : L2.St → Hp → Prop) (μ : L2.St → Hp → Nat) (h0 : Pv σ H)
    (hs : ∀ σ H, Pv σ H → tc σ H fun b' H1 => if b' = true then tb ⟨fun σ' H' => Pv σ' H' ∧ μ σ' H' < μ σ H, b, a, fun σ' H' => Pv σ' H' ∧ μ σ' H' < μ σ H⟩ σ H1 else a σ H1)
    (mono : ∀ σ H Q Q', (∀ b H1, Q b H1 → Q' b H1) → tc σ H Q → tc σ H Q') : tWhile tc tb ⟨a, b, c, d⟩ σ H := while_by Pv μ h0 hs mono
theorem g_itT {b : Bool} {A B : Prop} (h : b = true) (q : A) : if b = true then A else B := by rw [h]; exact iteT q
theorem g_itF {b : Bool} {A B : Prop} (h : b = false) (q : B) : if b = true then A else B := by rw [h]; exact iteF q
theorem g_ite {c : Prop} [Decidable c] {A B : Prop} (h1 : c → A) (h2 : ¬ c → B) : if decide c = true then A else B := by
  by_cases h : c
  · rw [decide_eq_true h]; exact iteT (h1 h)
  · rw [decide_eq_false h]; exact iteF (h2 h)
theorem g_iteN {c : Prop} [Decidable c] {A B : Prop} (h1 : ¬ c → A) (h2 : c → B) : if (!decide c) = true then A else B := by
  by_cases h : c
  · rw [decide_eq_true h]; exact iteF (h2 h)
  · rw [decide_eq_false h]; exact iteT (h1 h)
theorem g_len {p : Addr} {xs : List V} (h : SqL K H p xs ∨ SqT K H p xs) (q : Q (.int xs.length) H) : rLen K [.ref p] H Q := ⟨p, xs, rfl, h, q⟩
theorem g_ixL {p : Addr} {xs : List V} (h : SqL K H p xs) (ha : atI xs n = some v) (q : Q v H) : rIxL K (.ref p) (.int n) H Q := ⟨p, xs, n, v, rfl, rfl, h, ha, q⟩
theorem g_ixT {p : Addr} {xs : List V} (h : SqT K H p xs) (ha : atI xs n = some v) (q : Q v H) : rIxT K (.ref p) (.int n) H Q := ⟨p, xs, n, v, rfl, rfl, h, ha, q⟩
theorem g_setL {p : Addr} {xs : List V} {j : Nat} {q : Hp → Prop} (h : H p = some (.lst xs)) (hj : ixN xs.length n = some j) (k : q (upd H p (.lst (xs.set j v)))) : rSetL (.ref p) (.int n) v H q := ⟨p, xs, n, j, rfl, rfl, h, hj, k⟩
theorem mulW_small {i j : Int} (h1 : 0 ≤ i) (h2 : i < 2147483648) (h3 : 0 ≤ j) (h4 : j < 2147483648) : CMulW i j := wide_mul (a := 31) (b := 31) (by show _ < 2147483648; omega) (by show _ < 2147483648; omega) (by decide) (by decide) (by decide)
theorem divW_small {i j : Int} (h1 : 0 < j) (h2 : j < 10 ^ 38) : CDivW i j := wide_div (b := 127) h1 (by show _ < (2 : Nat) ^ 127; omega) (by decide) (by decide)
theorem g_append {p : Addr} {xs : List V} (h : H p = some (.lst xs)) (hl : xs.length < 100000) (q : Q .non (upd H p (.lst (xs ++ [v])))) : rAppend (.ref p) [v] H Q := ⟨p, xs, v, rfl, rfl, h, Nat.lt_of_lt_of_le hl (by decide), q⟩
theorem g_tyL {p : Addr} {xs : List V} {R : Prop} (h : H p = some (.lst xs)) (q : R) : tyV K "list" (.ref p) H ∧ R := ⟨.inl ⟨rfl, _, SqL.of h⟩, q⟩
theorem g_listOf {p : Addr} {xs : List V} (h : SqL K H p xs) (q : ∀ l, H l = none → Q (.ref l) (upd H l (.lst xs))) : rListOf K [.ref p] H Q := ⟨p, xs, rfl, .inl h, q⟩
theorem g_listOfT {p : Addr} {xs : List V} (h : SqT K H p xs) (q : ∀ l, H l = none → Q (.ref l) (upd H l (.lst xs))) : rListOf K [.ref p] H Q := ⟨p, xs, rfl, .inr h, q⟩
theorem g_int1B {b : Bool} (q : Q (.int (if b then 1 else 0)) H) : rInt1 [.bl b] H Q := .inr ⟨b, rfl, q⟩
theorem g_gtup {p : Addr} {xs : List V} {k : Nat} {tg : TGs} {Qg : L2.St → Hp → Prop} (h : SqT K H p xs) (hl : xs.length = k) (q : tg xs σ H Qg) : gTup K k tg (.ref p) σ H Qg := ⟨p, xs, rfl, h, hl, q⟩
theorem g_isi {c : V} {tv uv : Value} {b : Bool} (h1 : ClsV c uv) (h2 : TyX K H x tv) (h3 : PySem.W.kitOne K tv uv = some b) (q : Q (.bl b) H) : rIsi K [x, c] H Q := ⟨x, c, tv, uv, b, rfl, h1, h2, h3, q⟩
theorem g_max2 (q : Q (.int (if m > n then m else n)) H) : rMax2 [.int n, .int m] H Q := ⟨n, m, rfl, q⟩
theorem g_min2 (q : Q (.int (if m < n then m else n)) H) : rMin2 [.int n, .int m] H Q := ⟨n, m, rfl, q⟩
end

/-! ### heaps in which the list at S changes -/
def Frm (S : Addr) (H H' : Hp) : Prop := ∀ b o, b ≠ S → H b = some o → H' b = some o
theorem Frm.refl (S : Addr) (H : Hp) : Frm S H H := fun _ _ _ h => h
theorem Frm.trans {S : Addr} {H H1 H2 : Hp} (a : Frm S H H1) (b : Frm S H1 H2) : Frm S H H2 := fun c o n h => b c o n (a c o n h)
theorem Frm.of {S : Addr} {H H' : Hp} (e : Same H H') : Frm S H H' := fun b o _ h => e b o h
theorem Frm.set {S : Addr} {H : Hp} {o : HO} : Frm S H (upd H S o) := fun b u n h => by rw [upd_ne n]; exact h
theorem same_new {H : Hp} {p : Addr} {o : HO} (h : H p = none) : Same H (upd H p o) := fun b u e => by rw [upd_ne (ne_of_none e h)]; exact e
/-- what may be read at a, whatever becomes of S -/
def ScL (K : PySem.W.Frag) (S : Addr) (H : Hp) (a : Addr) (xs : List V) : Prop := (a ≠ S ∧ Rd H a (.lst xs)) ∨ ∀ H', SqL K H' a xs
theorem ScL.sq {K : PySem.W.Frag} {S : Addr} {H : Hp} {a : Addr} {xs : List V} (h : ScL K S H a xs) : SqL K H a xs := by
  rcases h with ⟨_, h⟩ | h
  · exact .inl h
  · exact h H
theorem ScL.frm {K : PySem.W.Frag} {S : Addr} {H H' : Hp} {a : Addr} {xs : List V} (h : ScL K S H a xs) (f : Frm S H H') : ScL K S H' a xs := by
  rcases h with ⟨n, h⟩ | h
  · refine .inl ⟨n, ?_⟩
    rcases h with h | ⟨o, h⟩
    · exact .inl (f _ _ n h)
    · exact .inr ⟨o, f _ _ n h⟩
  · exact .inr h
theorem ScL.of {K : PySem.W.Frag} {S : Addr} {H H' : Hp} {a : Addr} {xs : List V} (h : SqL K H a xs) (e : Same H H') (n : H S = none) : ScL K S H' a xs := by
  rcases h with h | h
  · rcases h with h | ⟨o, h⟩
    · exact .inl ⟨ne_of_none h n, .inl (e _ _ h)⟩
    · exact .inl ⟨ne_of_none h n, .inr ⟨o, e _ _ h⟩⟩
  · exact .inr fun H' => .inr h
/-- the drawing's state at S; what B tracks stands as it stood -/
def Dst (K : PySem.W.Frag) (B H : Hp) (S : Addr) : Prop := ∃ (sc : Addr) (ns : List Int) (c m r : Int), H S = some (.lst [.ref sc, .int c, .int m, .int r]) ∧ ScL K S B sc (ns.map V.int) ∧ Frm S B H ∧ ns.length ≤ 63 ∧ 0 ≤ c ∧ 0 ≤ m ∧ m < 2147483647
theorem Dst.same {K : PySem.W.Frag} {B H H' : Hp} {S : Addr} (d : Dst K B H S) (e : Same H H') : Dst K B H' S := by
  obtain ⟨sc, ns, c, m, r, h1, h2, h3, h4⟩ := d
  exact ⟨sc, ns, c, m, r, e _ _ h1, h2, h3.trans (.of e), h4⟩
theorem Dst.has {K : PySem.W.Frag} {B H : Hp} {S : Addr} (d : Dst K B H S) : H S ≠ none := by
  obtain ⟨sc, ns, c, m, r, h1, _⟩ := d
  rw [h1]; exact fun z => nomatch z
theorem Dst.ne {K : PySem.W.Frag} {B H : Hp} {S p : Addr} (d : Dst K B H S) (h : H p = none) : p ≠ S := fun e => d.has (e ▸ h)
theorem Dst.fresh {K : PySem.W.Frag} {B H : Hp} {S p : Addr} (d : Dst K B H S) (h : H p = none) : B p = none := by
  have n := d.ne h
  obtain ⟨sc, ns, c, m, r, h1, h2, h3, h4⟩ := d
  cases e : B p with
  | none => rfl
  | some o => rw [h3 p o n e] at h; cases h
/-- a thing that B does not know changes -/
theorem Dst.mut {K : PySem.W.Frag} {B H : Hp} {S p : Addr} {o : HO} (d : Dst K B H S) (n : p ≠ S) (h : B p = none) : Dst K B (upd H p o) S := by
  obtain ⟨sc, ns, c, m, r, h1, h2, h3, h4⟩ := d
  refine ⟨sc, ns, c, m, r, ?_, h2, fun b u hb e => ?_, h4⟩
  · rw [upd_ne n.symm]; exact h1
  · rw [upd_ne (ne_of_none e h)]; exact h3 b u hb e
theorem Frm.mut {S p : Addr} {H H' : Hp} {o : HO} (f : Frm S H H') (h : H p = none) : Frm S H (upd H' p o) := fun b u n e => by
  rw [upd_ne (ne_of_none e h)]; exact f b u n e
theorem Frm.new {S p : Addr} {H : Hp} {o : HO} (h : H p = none) : Frm S H (upd H p o) := .of (same_new h)
theorem Frm.back {S p : Addr} {H H' : Hp} (f : Frm S H H') (n : p ≠ S) (h : H' p = none) : H p = none := by
  cases e : H p with
  | none => rfl
  | some o => rw [f p o n e] at h; cases h
theorem Same.back {H H' : Hp} {p : Addr} (f : Same H H') (h : H' p = none) : H p = none := by
  cases e : H p with
  | none => rfl
  | some o => rw [f p o e] at h; cases h
theorem Same.mut {H H' : Hp} {p : Addr} {o : HO} (f : Same H H') (h : H p = none) : Same H (upd H' p o) := fun b u e => by
  rw [upd_ne (ne_of_none e h)]; exact f b u e
theorem pow_small {i j : Int} (h0 : 0 ≤ j) (h1 : j ≤ 1000) (h2 : i.natAbs < 2 ^ 32) : CPow i j := ⟨h0, by omega, Nat.lt_trans h2 (by decide)⟩
theorem atI_mem {xs : List V} {z : Int} (h0 : 0 ≤ z) (h1 : z < xs.length) : ∃ x, x ∈ xs ∧ atI xs z = some x := by
  have hl : z.toNat < xs.length := by omega
  exact ⟨xs[z.toNat], List.getElem_mem hl, at_of (j := z.toNat) (by omega) (List.getElem?_eq_getElem hl)⟩
theorem map_at {ns : List Int} {i : Nat} {x : V} (h : (ns.map V.int)[i]? = some x) : ∃ n, ns[i]? = some n ∧ x = V.int n := by
  rw [List.getElem?_map] at h
  cases hq : ns[i]? with
  | none => rw [hq] at h; cases h
  | some z => rw [hq] at h; exact ⟨z, rfl, (Option.some.inj h).symm⟩
/-- what stands beside S -/
def Live (S : Addr) (H : Hp) (L : List (Addr × HO)) : Prop := ∀ p ∈ L, p.1 ≠ S ∧ H p.1 = some p.2
theorem Live.nil {S : Addr} {H : Hp} : Live S H [] := fun _ h => (List.not_mem_nil h).elim
theorem Live.frm {S : Addr} {H H' : Hp} {L : List (Addr × HO)} (l : Live S H L) (f : Frm S H H') : Live S H' L := fun p h => ⟨(l p h).1, f _ _ (l p h).1 (l p h).2⟩
theorem Live.cons {S : Addr} {H : Hp} {L : List (Addr × HO)} {a : Addr} {o : HO} (l : Live S H L) (n : a ≠ S) (h : H a = some o) : Live S H ((a, o) :: L) := fun p hp => by
  rcases List.mem_cons.mp hp with e | e
  · subst e; exact ⟨n, h⟩
  · exact l p e
theorem Live.get {S : Addr} {H : Hp} {L : List (Addr × HO)} (l : Live S H L) (i : Nat) {a : Addr} {o : HO} (h : L[i]? = some (a, o)) : H a = some o := (l _ (List.mem_of_getElem? h)).2
theorem Live.ne {S : Addr} {H : Hp} {L : List (Addr × HO)} (l : Live S H L) (i : Nat) {a : Addr} {o : HO} (h : L[i]? = some (a, o)) : a ≠ S := (l _ (List.mem_of_getElem? h)).1
/-- a new object is laid -/
theorem Live.new {S : Addr} {H : Hp} {L : List (Addr × HO)} {p : Addr} {o : HO} (l : Live S H L) (hp : H p = none) (hS : H S ≠ none) : Live S (upd H p o) ((p, o) :: L) :=
  (l.frm (.of (same_new hp))).cons (fun e => hS (e ▸ hp)) upd_same

/-! ### == of data -/
section
variable {K : PySem.W.Frag} {H : Hp} {Q : VK}
theorem dpAll_ints : ∀ ns : List Int, DpAll K H (ns.map V.int) (ns.map PyData.int)
  | [] => .nil
  | n :: ns => .cons (.int n) (dpAll_ints ns)
theorem dp_ints {a : Addr} {ns : List Int} (h : SqL K H a (ns.map V.int)) : Dp K H (.ref a) (.list (ns.map PyData.int)) := .lst h (dpAll_ints ns)
theorem eqvAll_ints : ∀ ns ms : List Int, PyData.eqvAll (ns.map PyData.int) (ms.map PyData.int) = decide (ns = ms)
  | [], [] => by simp [PyData.eqvAll]
  | [], _ :: _ => by simp [PyData.eqvAll]
  | _ :: _, [] => by simp [PyData.eqvAll]
  | n :: ns, m :: ms => by
    have ih := eqvAll_ints ns ms
    simp only [List.map_cons, PyData.eqvAll, ih, PyData.eqv]
    by_cases h1 : n = m <;> by_cases h2 : ns = ms <;> simp [h1, h2]
theorem eqv_ints (ns ms : List Int) : PyData.eqv (.list (ns.map PyData.int)) (.list (ms.map PyData.int)) = decide (ns = ms) := by
  rw [PyData.eqv]; exact eqvAll_ints ns ms
theorem g_eqLI {a b : Addr} {ns ms : List Int} (h1 : SqL K H a (ns.map V.int)) (h2 : SqL K H b (ms.map V.int)) (q : Q (.bl (decide (ns = ms))) H) : rEqD K (.ref a) (.ref b) H Q :=
  ⟨_, _, dp_ints h1, dp_ints h2, PySem.W.ke_shaped_ints ns, PySem.W.ke_shaped_ints ms, by rw [eqv_ints]; exact q⟩
theorem g_neLI {a b : Addr} {ns ms : List Int} (h1 : SqL K H a (ns.map V.int)) (h2 : SqL K H b (ms.map V.int)) (q : Q (.bl (!decide (ns = ms))) H) : rNeD K (.ref a) (.ref b) H Q :=
  ⟨_, _, dp_ints h1, dp_ints h2, PySem.W.ke_shaped_ints ns, PySem.W.ke_shaped_ints ms, by rw [eqv_ints]; exact q⟩
end
section
variable {σ : L2.St} {H : Hp}
/-- a while, by an invariant that bears its measure -/
theorem w_loop {a : L2.St → Hp → Prop} {b : VK} {c d : L2.St → Hp → Prop} {tc : TT} {tb : TS} (Pv : Nat → L2.St → Hp → Prop) (m0 : Nat) (h0 : Pv m0 σ H)
    (hs : ∀ m σ H, Pv m σ H → tc σ H fun b' H1 => if b' = true then ∃ N : L2.St → Hp → Prop, (∀ σ' H', N σ' H' → ∃ m', m' < m ∧ Pv m' σ' H') ∧ tb ⟨N, b, a, N⟩ σ H1 else a σ H1) : tWhile tc tb ⟨a, b, c, d⟩ σ H := ⟨Pv, ⟨m0, h0⟩, hs⟩
end
section
variable {K : PySem.W.Frag} {H : Hp} {Q : VK}
theorem g_slL {a : Addr} {xs : List V} {lo hi : Option Int} (h : SqL K H a xs) (q : ∀ p, H p = none → Q (.ref p) (upd H p (.lst (cutV xs lo hi)))) : rSlL K (.ref a) lo hi H Q := ⟨a, xs, rfl, h, q⟩
theorem cut1 (xs : List V) : cutV xs (some 1) none = xs.drop 1 := by
  unfold cutV
  rw [show (some (1 : Int)) = some ((1 : Nat) : Int) from rfl, HT.sIx_nat, HT.sIx_none]
  cases xs with
  | nil => rfl
  | cons x xs =>
    have e : min 1 (x :: xs).length = 1 := by simp
    rw [e]
    show List.take ((x :: xs).length - 1) xs = xs
    simp
end
theorem tup_same {K : PySem.W.Frag} {H H' : Hp} {a : Addr} {xs : List V} (e : Same H H') (h : SqT K H a xs) : SqT K H' a xs := by
  rcases h with (h | ⟨o, h⟩) | h
  · exact .inl (.inl (e _ _ h))
  · exact .inl (.inr ⟨o, e _ _ h⟩)
  · exact .inr h

/-! ### data: kinds, and as they stand later -/
section
variable {K : PySem.W.Frag} {H H' : Hp} {Q : VK} {σ : L2.St}
theorem ty_list {a : Addr} {xs : List V} (h : SqL K H a xs) : TyX K H (.ref a) (.type "list") := by
  rcases h with (h | ⟨o, h⟩) | h
  · exact .base (.lst h)
  · exact .base (.frz h)
  · obtain ⟨o, items, n, h1, h2, _⟩ := h
    exact .kList h1 h2
theorem ty_tup {a : Addr} {xs : List V} (h : SqT K H a xs) : TyX K H (.ref a) (.type "tuple") := by
  rcases h with (h | ⟨o, h⟩) | h
  · exact .base (.tup h)
  · exact .fTuple h
  · obtain ⟨o, items, n, h1, h2, _⟩ := h
    exact .kTuple h1 h2
theorem list_same {a : Addr} {xs : List V} (e : Same H H') (h : SqL K H a xs) : SqL K H' a xs := e.seq h
mutual
theorem Dp_same (e : Same H H') : ∀ (d : PyData) (v : V), Dp K H v d → Dp K H' v d
  | .none, _, h => by cases h; exact .non
  | .bool b, _, h => by cases h; exact .bl b
  | .int i, _, h => by cases h; exact .int i
  | .str x, _, h => by cases h; exact .str x
  | .list ds, _, h => by
    cases h with
    | lst hs ha => exact .lst (list_same e hs) (DpAll_same e ds _ ha)
  | .tuple ds, _, h => by
    cases h with
    | tup hs ha => exact .tup (tup_same e hs) (DpAll_same e ds _ ha)
  | .dict _, _, h => by cases h
theorem DpAll_same (e : Same H H') : ∀ (ds : List PyData) (vs : List V), DpAll K H vs ds → DpAll K H' vs ds
  | [], _, h => by cases h; exact .nil
  | d :: ds, _, h => by
    cases h with
    | cons h1 h2 => exact .cons (Dp_same e d _ h1) (DpAll_same e ds _ h2)
end
theorem DpAll.len : ∀ {vs : List V} {ds : List PyData}, DpAll K H vs ds → vs.length = ds.length
  | [], [], _ => rfl
  | _ :: _, _ :: _, .cons _ h => by rw [List.length_cons, List.length_cons, DpAll.len h]
theorem DpAll.at : ∀ {vs : List V} {ds : List PyData} {i : Nat} {d : PyData}, DpAll K H vs ds → ds[i]? = some d → ∃ v, vs[i]? = some v ∧ Dp K H v d
  | _, _, 0, d, .cons h _, e => by cases e; exact ⟨_, rfl, h⟩
  | _, _, i + 1, d, .cons _ h, e => DpAll.at (i := i) h e
/-- small data of the four flat kinds, lists and tuples, at most so deep -/
inductive OkD : Nat → PyData → Prop
  | non {n : Nat} : OkD n .none
  | bl {n : Nat} (b : Bool) : OkD n (.bool b)
  | int {n : Nat} (i : Int) : OkD n (.int i)
  | str {n : Nat} (x : Str) : OkD n (.str x)
  | lst {n : Nat} {ds : List PyData} : ds.length ≤ 100000 → (∀ d ∈ ds, OkD n d) → OkD (n + 1) (.list ds)
  | tup {n : Nat} {ds : List PyData} : ds.length ≤ 100000 → (∀ d ∈ ds, OkD n d) → OkD (n + 1) (.tuple ds)
theorem g_isiT {x : V} {tp : Addr} {cs : List V} {t : Value} {us : List Value} {b : Bool} (hT : H tp = some (.tup cs)) (hc : Paired ClsV cs us) (ty : TyX K H x t) (hk : PySem.W.kitAny K t us = some b) (q : Q (.bl b) H) : rIsiT K [x, .ref tp] H Q :=
  ⟨x, tp, cs, t, us, b, rfl, hT, hc, ty, hk, q⟩
/-- t is one of two built-in types, or none of them -/
theorem kit2 {t a b : String} {r1 r2 : Bool} (h1 : kitB t a = some r1) (h2 : kitB t b = some r2) : PySem.W.kitAny K (.type t) [.type a, .type b] = some (r1 || r2) := by
  refine kitAny_cons (kit_ty h1) (fun e => ?_) (fun e => by rw [e]; rfl)
  rw [e]
  exact kitAny_cons (kit_ty h2) (fun e2 => by rw [e2]; rfl) (fun e2 => by rw [e2]; rfl)
theorem g_isiB {x c : V} {tn cn : String} {b : Bool} (h1 : ClsV c (.type cn)) (h2 : TyX K H x (.type tn)) (h3 : kitB tn cn = some b) (q : Q (.bl b) H) : rIsi K [x, c] H Q := ⟨x, c, .type tn, .type cn, b, rfl, h1, h2, kit_ty h3, q⟩
def LcEnd (g : TG) (tt : TT) (te : TE) (vs : List Nat) (σ : L2.St) (Q : VK) (J : It) (H1 : Hp) : Prop := ∀ D, H1 D = none → ∃ W : Nat → Nat → Hp → Prop, (∃ m, W 0 m (upd H1 D (.lst []))) ∧ ∀ i m H, W i m H →
  (J.stop i H ∧ Q (.ref D) H) ∨ (J.go i H ∧ ∃ Nx : Hp → Prop, (∀ H', Nx H' → ∃ m', m' < m ∧ W (i + 1) m' H') ∧ ∀ x H', J.yld i H x H' → g x (wipe σ vs) H' fun σ2 H2 => wipe σ2 vs = wipe σ vs ∧ tt σ2 H2 fun b H3 =>
    if b = true then te σ2 H3 fun y H4 => ∃ acc, H4 D = some (.lst acc) ∧ acc.length < sizeLine ∧ Nx (upd H4 D (.lst (acc ++ [y]))) else Nx H3)
theorem g_lc {wi : TI} {g : TG} {tt : TT} {te : TE} {vs : List Nat} (h : wi σ H (LcEnd g tt te vs σ Q)) : tLc wi g tt te vs σ H Q := h
theorem g_yes {QB : Bool → Hp → Prop} (q : QB true H) : tYes σ H QB := q
theorem w_lcRange {g : TG} {tt : TT} {te : TE} {vs : List Nat} {n : Int} (h1 : -(2 ^ 62) ≤ n) (h2 : n < 2 ^ 62) (Pv : Addr → Nat → Hp → Prop) (h0 : ∀ D, H D = none → Pv D 0 (upd H D (.lst [])))
    (hs : ∀ D i H', H D = none → i < n.toNat → Pv D i H' → g (.int i) (wipe σ vs) H' fun σ2 H2 => wipe σ2 vs = wipe σ vs ∧ tt σ2 H2 fun b H3 =>
      if b = true then te σ2 H3 fun y H4 => ∃ acc, H4 D = some (.lst acc) ∧ acc.length < sizeLine ∧ Pv D (i + 1) (upd H4 D (.lst (acc ++ [y]))) else Pv D (i + 1) H3) (hd : ∀ D H', H D = none → Pv D n.toNat H' → Q (.ref D) H') :
    ∃ j : Int, [V.int n] = [.int j] ∧ -(2 ^ 62) ≤ j ∧ j < 2 ^ 62 ∧ LcEnd g tt te vs σ Q (Itr 0 j.toNat) H :=
  ⟨n, rfl, h1, h2, fun D hD => lc_range (Pv D) (h0 D hD) (fun i H' hi p => by have q := hs D i H' hD hi p; rw [Int.zero_add]; exact q) (fun H' p => hd D H' hD p)⟩
end

/-! ### tables of code objects beside the drawing -/
/-- H without its tables -/
def noT (H : Hp) : Hp := fun b => match H b with
  | some (.tbl _) => none
  | o => o
theorem noT_some {H : Hp} {b : Addr} {o : HO} (h : noT H b = some o) : H b = some o ∧ ∀ ps, o ≠ .tbl ps := by
  unfold noT at h
  split at h
  · cases h
  · rename_i n
    exact ⟨h, fun ps e => n ps (by rw [h, e])⟩
theorem noT_of {H : Hp} {b : Addr} {o : HO} (h : H b = some o) (n : ∀ ps, o ≠ .tbl ps) : noT H b = some o := by
  unfold noT
  split
  · rename_i ps e
    rw [h] at e
    exact absurd (Option.some.inj e) (n ps)
  · exact h
theorem noT_same (H : Hp) : Same (noT H) H := fun _ _ h => (noT_some h).1
theorem noT_list {K : PySem.W.Frag} {H : Hp} {a : Addr} {xs : List V} (h : SqL K H a xs) : SqL K (noT H) a xs := by
  rcases h with (h | ⟨o, h⟩) | h
  · exact .inl (.inl (noT_of h (fun _ z => nomatch z)))
  · exact .inl (.inr ⟨o, noT_of h (fun _ z => nomatch z)⟩)
  · exact .inr h
/-- all but S and the tables stays -/
theorem Dst.ext {K : PySem.W.Frag} {H0 H H' : Hp} {S : Addr} (d : Dst K (noT H0) H S) (e : LamX.ExtN H H') : Dst K (noT H0) H' S := by
  obtain ⟨sc, ns, c, m, r, h1, h2, h3, h4⟩ := d
  exact ⟨sc, ns, c, m, r, e _ _ h1 (fun _ z => nomatch z), h2, fun b o n h => e _ _ (h3 b o n h) (noT_some h).2, h4⟩
theorem tabs_frm {K : PySem.W.Frag} {B H H' : Hp} {S : Addr} {T : List (Addr × Str)} (t : LamX.Tabs T H) (d : Dst K B H S) (f : Frm S H H') : LamX.Tabs T H' := fun p hp => by
  obtain ⟨sc, ns, c, m, r, hS, _⟩ := d
  obtain ⟨ps, h1, h2, h3⟩ := t p hp
  refine ⟨ps, f _ _ (ne_of h1 hS (fun z => nomatch z)) h1, h2, fun pos cv hc => ?_⟩
  obtain ⟨c', e1, e2⟩ := h3 pos cv hc
  exact ⟨c', e1, f _ _ (ne_of e2 hS (fun z => nomatch z)) e2⟩
theorem tabs_same {H H' : Hp} {T : List (Addr × Str)} (t : LamX.Tabs T H) (e : Same H H') : LamX.Tabs T H' := t.ext e
section
variable {P : Program} {w : World} {K : PySem.W.Frag} {mg : Str → Option Value} {base : Heap}
/-- a def whose code object is told -/
theorem fn_code {k : Nat} {f : Addr} {name qual : Str} {params : Arguments} {body : List Stmt} {scope : Scope} {dV kV doc pm cdv ct oc : Value} {an od : Option Addr} {osl : Array (Option Value)} {N ps : List Str} {sp : Sp}
    (lk : K.lookup f = some ⟨oc, od, .func (PySem.W.fnOf name qual params body scope dV kV doc pm an cdv ct), osl⟩) (hcd : PySem.W.codeIn K cdv qual = true) (S : FnScope N ps scope) (len : ∀ vs H Q E, sp vs H Q E → vs.length = ps.length)
    (hbody : ∀ (A : Around) (outer : List Env) (s : Shared) (H : Hp) (vs : List V) (Q : VK) (E : XK), Room k (A.deeper (envOfC qual scope s.heap.objs.size f cdv)) → sp vs H Q E →
      ∃ t, PSs (cxOf C8.CX0 P w K mg base N qual scope f cdv A outer s H E).nox body t ∧ t { nx := fun _ H' => Q .non H', rt := Q } (L2.start N vs) H) :
    FnOk P w K mg base C8.CX0 (k + 1) f (PySem.W.fnOf name qual params body scope dV kV doc pm an cdv ct) ps sp :=
  fn_of lk hcd S len fun A outer s H vs Q E hr hsp => (hbody A outer s H vs Q E hr hsp).elim fun t h => ⟨t, h.1.nox, h.2⟩
end
theorem g_lam {T : List (Addr × Str)} {TT : (XK → Hp → VK → Prop) → Hp → VK → Prop} {t : XK → TE} {σ : L2.St} {H : Hp} {Q : VK} (h : LamX.Tabs T H) (q : ∀ H1, LamX.ExtN H H1 → LamX.Tabs T H1 → TT (fun E H' Q' => t E σ H' Q') H1 Q) : LamX.tLam T TT t σ H Q := ⟨h, q⟩
end Wd
local macro_rules | `(tactic| walk_at "go") => `(tactic| repeat (first
  | with_reducible refine Wd.g_seq ?_
  | with_reducible refine Wd.g_nx ?_
  | with_reducible refine Wd.g_asg ?_
  | ((with_reducible refine' Wd.g_var ?h1 ?_); (case h1 => exact rfl))
  | with_reducible refine Wd.g_c ?_
  | with_reducible refine Wd.g_op ?_
  | with_reducible refine Wd.g_un ?_
  | with_reducible refine Wd.g_I0 ?_
  | with_reducible refine Wd.g_U ?_
  | with_reducible refine Wd.g_eqI ?_
  | with_reducible refine Wd.g_neI ?_
  | with_reducible refine Wd.g_eqS ?_
  | with_reducible refine Wd.g_neS ?_
  | with_reducible refine Wd.g_eqB ?_
  | with_reducible refine Wd.g_neB ?_
  | with_reducible refine Wd.g_isN ?_
  | with_reducible refine Wd.g_notN ?_
  | with_reducible refine Wd.g_lc ?_
  | with_reducible refine Wd.g_yes ?_
  | with_reducible refine Wd.g_test ?_
  | with_reducible refine Wd.g_tB ?_
  | with_reducible refine Wd.g_bl ?_
  | with_reducible refine Wd.g_blI ?_
  | with_reducible refine Wd.g_and ?_
  | with_reducible refine Wd.g_or ?_
  | with_reducible refine Wd.g_not ?_
  | with_reducible refine Wd.g_andV ?_
  | with_reducible refine Wd.g_orV ?_
  | with_reducible refine Wd.g_notV ?_
  | with_reducible refine Wd.g_if ?_
  | with_reducible refine Wd.g_chain ?_
  | with_reducible refine Wd.g_chain3 ?_
  | with_reducible refine Wd.g_nil ?_
  | with_reducible refine Wd.g_cons ?_
  | with_reducible refine Wd.g_tup ?_
  | with_reducible refine Wd.g_lst ?_
  | with_reducible refine Wd.g_CB ?_
  | with_reducible refine Wd.g_call ?_
  | with_reducible refine Wd.g_callS ?_
  | with_reducible refine Wd.g_bm ?_
  | with_reducible refine Wd.g_bm0 ?_
  | with_reducible refine Wd.g_sl ?_
  | with_reducible refine Wd.g_part ?_
  | with_reducible refine Wd.g_part1 ?_
  | with_reducible refine Wd.g_noPart ?_
  | with_reducible refine Wd.g_next ?_
  | with_reducible refine Wd.g_name ?_
  | with_reducible refine Wd.g_sub ?_
  | with_reducible refine Wd.g_gnil ?_
  | with_reducible refine Wd.g_gcons ?_
  | with_reducible refine Wd.g_drop ?_
  | with_reducible refine Wd.g_ret ?_
  | with_reducible refine Wd.g_retN ?_
  | with_reducible refine Wd.g_brk ?_
  | with_reducible refine Wd.g_cont ?_
  | with_reducible refine Wd.g_ifS ?_
  | with_reducible refine Wd.g_bk ?_
  | with_reducible refine Wd.g_ct ?_
  | with_reducible refine Wd.g_rt ?_
  | with_reducible refine Wd.g_for ?_
  | with_reducible refine Wd.g_rng1 ?_
  | with_reducible refine Wd.g_rng2 ?_
  | with_reducible refine Wd.g_iList ?_
  | with_reducible refine Wd.g_iTup ?_
  | ((with_reducible refine Wd.g_fit ?h1 ?_); (case h1 => exact rfl))
  | with_reducible refine Wd.g_max2 ?_
  | with_reducible refine Wd.g_min2 ?_
  | with_reducible refine Wd.g_int1B ?_
  | with_reducible refine L2.iteT ?_
  | with_reducible refine L2.iteF ?_
  | ((with_reducible refine Wd.g_itT ?h1 ?_); (case h1 => exact rfl))
  | ((with_reducible refine Wd.g_itF ?h1 ?_); (case h1 => exact rfl))))
/-! Plans as data; tuples that are repeated, made of lists; lists within comprehensions. -/
namespace Wd
open PySem PySem.Spec PyProof.Rows L2

/-! ### t * k, k from 0 on -/
theorem mul_once (l : Addr) (items : Array Value) (n : Nat) (dd : Option Addr) (sl : Array (Option Value)) (u : Tok) :
    Meets (Builtin.«tuple.__mul__» ⟨[.ref l, .int 1 u], []⟩) (fun _ R s => s.heap.get? l = some { cls := .type "tuple", dict := dd, data := .seq items n, slots := sl } ∧ R (.ok (.ret (Value.ref l))) s) :=
  .of_wp fun prog w A R s h => by
    obtain ⟨hp, g, d, tk, os⟩ := s
    obtain ⟨hl, q⟩ := h
    have one := AutoSeq1.idx_int
    wp_walk using AutoSeq1.wpAny_loadPart' hl
    exact ⟨_, rfl, q⟩
theorem mul_none (l : Addr) (items : Array Value) (n : Nat) (dd : Option Addr) (sl : Array (Option Value)) (u : Tok) (h2 : items.isEmpty = false) :
    Meets (Builtin.«tuple.__mul__» ⟨[.ref l, .int 0 u], []⟩) (fun _ R s => s.heap.get? l = some { cls := .type "tuple", dict := dd, data := .seq items n, slots := sl } ∧
      R (.ok (.ret (Value.ref s.heap.objs.size))) { s with heap := s.heap.push { cls := Value.type "tuple", data := Data.seq #[] }, toks := s.toks }) :=
  .of_wp fun prog w A R s h => by
    obtain ⟨hp, g, d, tk, os⟩ := s
    obtain ⟨hl, q⟩ := h
    have one := AutoSeq1.idx_int
    wp_walk using AutoSeq1.wpAny_loadPart' hl
    exact ⟨_, rfl, q⟩
def rRepU (K : PySem.W.Frag) : R2 := fun x y H Q => ∃ (l : Addr) (k : Int) (xs : List V), x = .ref l ∧ y = .int k ∧ SqT K H l xs ∧ xs ≠ [] ∧ 0 ≤ k ∧ k ≤ 1000 ∧ xs.length ≤ 1000 ∧ (k = 1 → Q (.ref l) H) ∧
  (k ≠ 1 → ∀ p, H p = none → Q (.ref p) (upd H p (.tup (List.replicate k.toNat xs).flatten)))
section
variable {X : Cx}
theorem op_repU : OpR X (binaryOp .Mult) (rRepU X.K) := by
  intro pins s σ H x y v u Q I rx ry h
  obtain ⟨l, k, xs, rfl, rfl, hT, hne, h0, h1, hz, q1, q2⟩ := h
  by_cases c2 : 2 ≤ k
  · exact op_repT pins s σ H _ _ _ _ Q I rx ry ⟨l, k, xs, rfl, rfl, hT, hne, c2, h1, hz, q2 (by omega)⟩
  · cases rx
    obtain ⟨t, rfl⟩ := ry
    obtain ⟨its, r, ⟨⟨cls, dd, data, sl⟩, ho, hc, n, hd⟩, hs⟩ := I.tuple hT
    simp only at hc hd
    subst hc hd
    have c01 : k = 0 ∨ k = 1 := by omega
    rcases c01 with rfl | rfl
    · have hem : its.toArray.isEmpty = false := by
        cases r with
        | nil => exact absurd rfl hne
        | cons _ _ => rfl
      refine wpAny_binaryOp_repeat_ref (T := "tuple") (U := "int") (by decide) ⟨_, ho, rfl⟩ (fun s' => typeIs_int s' 0 t) noFill_tuple_mul F.fills_int_mul F.slot_int_rmul repeat_tuple F.slot_int_index.lookup (call_meets F.slot_int_rmul (typeIs_int s 0 t) F.entry_int_rmul (F.args_int_rmul_2 _ _)
        (int_rmul_tuple 0 t l its.toArray n dd sl) ⟨ho, rfl, ⟨_, ho, rfl⟩, call_meets F.slot_tuple_mul ⟨_, ho, rfl⟩ F.entry_tuple_mul (F.args_tuple_mul_2 _ _) (mul_none l its.toArray n dd sl t hem) ⟨ho, ?_⟩⟩)
      refine ⟨.ref s.heap.objs.size, _, I.laid (t' := s.toks) (o := .tup []) (fun b ob z => Heap.get?_push_of_some _ z) (Nat.le_refl _) ?_, rfl, q2 (by decide) _ (I.hok.fresh (Nat.le_refl _))⟩
      exact ⟨Nat.zero_le _, [], .nil, IsTup.new _ _⟩
    · refine wpAny_binaryOp_repeat_ref (T := "tuple") (U := "int") (by decide) ⟨_, ho, rfl⟩ (fun s' => typeIs_int s' 1 t) noFill_tuple_mul F.fills_int_mul F.slot_int_rmul repeat_tuple F.slot_int_index.lookup (call_meets F.slot_int_rmul (typeIs_int s 1 t) F.entry_int_rmul (F.args_int_rmul_2 _ _)
        (int_rmul_tuple 1 t l its.toArray n dd sl) ⟨ho, rfl, ⟨_, ho, rfl⟩, call_meets F.slot_tuple_mul ⟨_, ho, rfl⟩ F.entry_tuple_mul (F.args_tuple_mul_2 _ _) (mul_once l its.toArray n dd sl t) ⟨ho, ?_⟩⟩)
      exact ⟨.ref l, H, I, rfl, q1 rfl⟩
end

/-! ### more steps -/
def rTupOf (K : PySem.W.Frag) : List V → Hp → VK → Prop := fun xs H Q => ∃ p ys, xs = [.ref p] ∧ ((SqL K H p ys ∧ ∀ l, H l = none → Q (.ref l) (upd H l (.tup ys))) ∨ (SqT K H p ys ∧ Q (.ref p) H))
theorem call_tuple1 {X : Cx} : CallR X (.type "tuple") (rTupOf X.K) := call_tuple_of
section
variable {K : PySem.W.Frag} {H H' : Hp} {Q : VK} {σ : L2.St} {x : V}
theorem g_tupOf {p : Addr} {ys : List V} (h : SqL K H p ys) (q : ∀ l, H l = none → Q (.ref l) (upd H l (.tup ys))) : rTupOf K [.ref p] H Q := ⟨p, ys, rfl, .inl ⟨h, q⟩⟩
theorem g_inT {p : Addr} {xs : List V} (h : SqT K H p xs) (fx : flatV x = true) (fs : xs.all flatV = true) (q : Q (.bl (inV x xs)) H) : rIn K false x (.ref p) H Q := ⟨p, xs, rfl, .inr h, fx, fs, q⟩
theorem g_notInT {p : Addr} {xs : List V} (h : SqT K H p xs) (fx : flatV x = true) (fs : xs.all flatV = true) (q : Q (.bl (!inV x xs)) H) : rIn K true x (.ref p) H Q := ⟨p, xs, rfl, .inr h, fx, fs, q⟩
theorem g_sum {a : Addr} {ns : List Int} (h : SqL K H a (ns.map V.int)) (q : Q (.int ns.sum) H) : rSum K [.ref a] H Q := ⟨a, ns, rfl, h, q⟩
theorem g_pop {l : Addr} {xs : List V} {y : V} (h : H l = some (.lst xs)) (hy : xs[xs.length - 1]? = some y) (q : Q y (upd H l (.lst xs.dropLast))) : rPop (.ref l) [] H Q := ⟨l, xs, y, rfl, rfl, h, hy, q⟩
theorem w_lcTup {g : TG} {tt : TT} {te : TE} {vs : List Nat} {p : Addr} {xs : List V} (hp : SqT K H p xs) (Pv : Addr → Nat → Hp → Prop) (h0 : ∀ D, H D = none → Pv D 0 (upd H D (.lst []))) (hl : ∀ D i H', H D = none → i ≤ xs.length → Pv D i H' → SqT K H' p xs)
    (hs : ∀ D i y H', H D = none → xs[i]? = some y → Pv D i H' → g y (wipe σ vs) H' fun σ2 H2 => wipe σ2 vs = wipe σ vs ∧ tt σ2 H2 fun b H3 =>
      if b = true then te σ2 H3 fun y H4 => ∃ acc, H4 D = some (.lst acc) ∧ acc.length < sizeLine ∧ Pv D (i + 1) (upd H4 D (.lst (acc ++ [y]))) else Pv D (i + 1) H3) (hd : ∀ D H', H D = none → Pv D xs.length H' → Q (.ref D) H') :
    ∃ q, V.ref p = .ref q ∧ (∃ xs, SqT K H q xs) ∧ LcEnd g tt te vs σ Q (Itt K q) H :=
  ⟨p, rfl, ⟨xs, hp⟩, fun D hD => lc_tup (Pv D) (h0 D hD) (fun i H' hi q => hl D i H' hD hi q) (fun i y H' hy q => hs D i y H' hD hy q) (fun H' q => hd D H' hD q)⟩
/-- the end of a comprehension's turn -/
theorem g_lcput {D : Addr} {acc : List V} {y : V} {N : Hp → Prop} (h : H D = some (.lst acc)) (hl : acc.length < 100000) (q : N (upd H D (.lst (acc ++ [y])))) : ∃ acc, H D = some (.lst acc) ∧ acc.length < sizeLine ∧ N (upd H D (.lst (acc ++ [y]))) := ⟨acc, h, Nat.lt_of_lt_of_le hl (by decide), q⟩
end

/-! ### plans -/
inductive Pl where
  | pat
  | work (a b : Int)
  | row (ps : List Pl)
  | either (ps : List Pl)
  | loop (a b : Int) (p : Pl)
/-- tuples stay -/
def KeepT (H H' : Hp) : Prop := ∀ b xs, H b = some (.tup xs) → H' b = some (.tup xs)
theorem KeepT.refl (H : Hp) : KeepT H H := fun _ _ h => h
theorem KeepT.trans {H H1 H2 : Hp} (a : KeepT H H1) (b : KeepT H1 H2) : KeepT H H2 := fun c xs h => b c xs (a c xs h)
theorem keepT_same {H H' : Hp} (e : Same H H') : KeepT H H' := fun b xs h => e b _ h
theorem keepT_new {H : Hp} {p : Addr} {o : HO} (h : H p = none) : KeepT H (upd H p o) := keepT_same (same_new h)
theorem keepT_lst {H : Hp} {p : Addr} {o : HO} {xs : List V} (h : H p = some (.lst xs)) : KeepT H (upd H p o) := fun b ys e => by rw [upd_ne (ne_of e h (fun z => nomatch z))]; exact e
theorem keepT_frm {K : PySem.W.Frag} {B H H' : Hp} {S : Addr} (d : Dst K B H S) (f : Frm S H H') : KeepT H H' := fun b xs h => by
  obtain ⟨sc, ns, c, m, r, hS, _⟩ := d
  exact f b _ (ne_of h hS (fun z => nomatch z)) h
mutual
inductive PlA (H : Hp) : V → Pl → Prop
  | pat {a : Addr} : H a = some (.tup [.str "pat"]) → PlA H (.ref a) .pat
  | work {a : Addr} {x y : Int} : H a = some (.tup [.str "work", .int x, .int y]) → PlA H (.ref a) (.work x y)
  | row {a b : Addr} {vs : List V} {ps : List Pl} : H a = some (.tup [.str "row", .ref b]) → H b = some (.tup vs) → PlAs H vs ps → PlA H (.ref a) (.row ps)
  | either {a b : Addr} {vs : List V} {ps : List Pl} : H a = some (.tup [.str "either", .ref b]) → H b = some (.tup vs) → PlAs H vs ps → PlA H (.ref a) (.either ps)
  | loop {a : Addr} {x y : Int} {u : V} {p : Pl} : H a = some (.tup [.str "loop", .int x, .int y, u]) → PlA H u p → PlA H (.ref a) (.loop x y p)
inductive PlAs (H : Hp) : List V → List Pl → Prop
  | nil : PlAs H [] []
  | cons {v : V} {vs : List V} {p : Pl} {ps : List Pl} : PlA H v p → PlAs H vs ps → PlAs H (v :: vs) (p :: ps)
end
mutual
theorem PlA_keep {H H' : Hp} (e : KeepT H H') : ∀ (p : Pl) (v : V), PlA H v p → PlA H' v p
  | .pat, _, h => by cases h with | pat h => exact .pat (e _ _ h)
  | .work _ _, _, h => by cases h with | work h => exact .work (e _ _ h)
  | .row ps, _, h => by cases h with | row h1 h2 h3 => exact .row (e _ _ h1) (e _ _ h2) (PlAs_keep e ps _ h3)
  | .either ps, _, h => by cases h with | either h1 h2 h3 => exact .either (e _ _ h1) (e _ _ h2) (PlAs_keep e ps _ h3)
  | .loop _ _ p, _, h => by cases h with | loop h1 h2 => exact .loop (e _ _ h1) (PlA_keep e p _ h2)
theorem PlAs_keep {H H' : Hp} (e : KeepT H H') : ∀ (ps : List Pl) (vs : List V), PlAs H vs ps → PlAs H' vs ps
  | [], _, h => by cases h; exact .nil
  | p :: ps, _, h => by cases h with | cons h1 h2 => exact .cons (PlA_keep e p _ h1) (PlAs_keep e ps _ h2)
end
theorem PlAs.len {H : Hp} : ∀ {vs : List V} {ps : List Pl}, PlAs H vs ps → vs.length = ps.length
  | [], [], _ => rfl
  | _ :: _, _ :: _, .cons _ h => by rw [List.length_cons, List.length_cons, PlAs.len h]
theorem PlAs.at {H : Hp} : ∀ {vs : List V} {ps : List Pl} {i : Nat} {v : V}, PlAs H vs ps → vs[i]? = some v → ∃ p, ps[i]? = some p ∧ PlA H v p
  | _, _, 0, _, .cons h _, e => by cases e; exact ⟨_, rfl, h⟩
  | _, _, i + 1, _, .cons _ h, e => PlAs.at (i := i) h e
theorem PlAs.snoc {H : Hp} : ∀ {vs : List V} {ps : List Pl} {v : V} {p : Pl}, PlAs H vs ps → PlA H v p → PlAs H (vs ++ [v]) (ps ++ [p])
  | _, _, _, _, .nil, h => .cons h .nil
  | _, _, _, _, .cons a b, h => .cons a (PlAs.snoc b h)
theorem PlAs.rep {H : Hp} {v : V} {p : Pl} (h : PlA H v p) : ∀ n : Nat, PlAs H (List.replicate n [v]).flatten (List.replicate n p)
  | 0 => .nil
  | n + 1 => .cons h (PlAs.rep h n)
mutual
/-- how many tuples are plans; how deep; how many loops within one another; its bounds as they should be -/
def cnt : Pl → Nat
  | .pat => 1
  | .work _ _ => 1
  | .row ps => 1 + cnts ps
  | .either ps => 1 + cnts ps
  | .loop _ _ p => 1 + cnt p
def cnts : List Pl → Nat
  | [] => 0
  | p :: ps => cnt p + cnts ps
end
mutual
def okP : Nat → Nat → Pl → Prop
  | _, _, .pat => True
  | _, _, .work a b => 0 ≤ a ∧ a ≤ b ∧ b ≤ 1000
  | 0, _, .row _ => False
  | d + 1, l, .row ps => 0 < ps.length ∧ ps.length ≤ 20 ∧ okPs d l ps
  | 0, _, .either _ => False
  | d + 1, l, .either ps => 0 < ps.length ∧ ps.length ≤ 20 ∧ okPs d l ps
  | 0, _, .loop _ _ _ => False
  | _ + 1, 0, .loop _ _ _ => False
  | d + 1, l + 1, .loop a b p => 0 ≤ a ∧ a ≤ b ∧ b ≤ 9 ∧ okP d l p
def okPs : Nat → Nat → List Pl → Prop
  | _, _, [] => True
  | d, l, p :: ps => okP d l p ∧ okPs d l ps
end
theorem okPs_at {d l : Nat} : ∀ {ps : List Pl} {i : Nat} {p : Pl}, okPs d l ps → ps[i]? = some p → okP d l p
  | _ :: _, 0, _, h, e => by cases e; exact h.1
  | _ :: ps, i + 1, _, h, e => okPs_at (ps := ps) (i := i) h.2 e
theorem okPs_snoc {d l : Nat} : ∀ {ps : List Pl} {p : Pl}, okPs d l ps → okP d l p → okPs d l (ps ++ [p])
  | [], _, _, h => ⟨h, trivial⟩
  | _ :: ps, _, h1, h => ⟨h1.1, okPs_snoc h1.2 h⟩
theorem okPs_rep {d l : Nat} {p : Pl} (h : okP d l p) : ∀ n : Nat, okPs d l (List.replicate n p)
  | 0 => trivial
  | n + 1 => ⟨h, okPs_rep h n⟩
theorem cnt_pos : ∀ p : Pl, 1 ≤ cnt p
  | .pat => Nat.le_refl 1
  | .work _ _ => Nat.le_refl 1
  | .row _ => Nat.le_add_right 1 _
  | .either _ => Nat.le_add_right 1 _
  | .loop _ _ _ => Nat.le_add_right 1 _
theorem small_lt {n : Nat} (h : n < 100000) : n < sizeLine := Nat.lt_of_lt_of_le h (by decide)
end Wd
/-! A refusal's own __init__: the __init__ of the class above it, asked of that class by its name. -/
namespace Wd
open PySem PySem.Spec PyProof.Rows L2
section
variable {X : Cx} {e : Expr} {es : List Expr} {ta : TA} {x : Str} {p1 p2 pos : Pos}
/-- N.__init__(self, ..), N a class of the program over ValueError that has no __init__ of its own -/
theorem pe_cinit {pl : Sem Bool} {CD : Addr} {mc : Value} (hg : Gl X x) (hm : X.mg x = some (.ref CD)) (r : ClX.CRead X.K CD mc) (vV : PySem.W.findCls X.K (.ref CD) mc "__init__" = some (.val (.builtin "ValueError.__init__"))) (ha : PA X (e :: es) ta)
    (hdb : (x == ("__debug__" : Str)) = false := by decide)
    (hc : eval (.Call (.Attribute (.Name x p1) "__init__" p2) (e :: es) [] pos) X.env = (do
      let ov ← eval (.Name x p1) X.env
      standAt p2.atName
      let (f, first) ← holding [ov] (getMethod ov "__init__" pl)
      callWith pos f first (backTo pos (starEach (e :: es) X.env)) (backToKw pos (keywordEach [] X.env))) := by rfl)
    (he : starEach (e :: es) X.env = (false, eval e X.env) :: starEach es X.env := by rfl) (hpl : (backTo pos (starEach es X.env)).any (·.1) = false := by rfl) :
    PE X (.Call (.Attribute (.Name x p1) "__init__" p2) (e :: es) [] pos) (tVeI X.K ta) := by
  refine ⟨fun pins s σ H Q I h => ?_⟩
  refine PySem.W.methodCall_KW (ld_glob I hg hm ?_ hdb) hc
  refine PySem.W.method_cls (I.tok _).kIn r.ga (PySem.W.cls_value (I.tok _).kIn r.rd vV (by decide +kernel) ?_)
  show wpAny _ _ (callWith pos (Value.builtin "ValueError.__init__") [] (backTo pos (starEach (e :: es) X.env)) []) _ _ _
  refine PyProof.Rows.callWith_method1 (thn (ha.run pos pins _ σ H _ (I.tok _) h) fun us s1 ⟨vs, H1, I1, r1, a, C, ws, ev, hl, T, ea, q⟩ => ?_) he hpl
  subst ev
  cases r1 with
  | @cons _ u0 _ ur ra rw' =>
    obtain rfl : u0 = Value.ref a := ra
    have hlen : ur.length ≤ sizeLine := by
      rw [← Paired.length rw', sizeLine_eq]
      omega
    exact oinit_ok T I1 ea hlen fun s' J => ⟨.non, H1, J, rfl, q⟩
end
/-! ### a method that may refuse -/
structure MetX (P : Program) (w : World) (K : PySem.W.Frag) (mg : Str → Option Value) (base : Heap) (k : Nat) (C : Addr) (m : Str) (sp : Sp) : Prop where
  ex : ∃ (f : Addr) (fd : FuncData) (ps : List Str), Cls K C ∧ Meth K C m f ∧ FnOk P w K mg base (L2.CX P w) k f fd ps sp ∧ Binds K fd ps []
def tMethX (C : Addr) (m : Str) (sp : Sp) (E : L2.St → XK) (ta : TE) (t : TA) : TE := fun σ H Q => ta σ H fun y H1 => ∃ a dx fs, y = .ref a ∧ H1 a = some (.ins C dx fs) ∧ fs.lookup m = none ∧ t σ H1 fun vs H2 => sp (y :: vs) H2 Q (E σ)
section
variable {X : Cx} {k j : Nat} {C : Addr} {m : Str} {sp : Sp} {pos apos : Pos} {o e : Expr} {es : List Expr} {ta : TE} {t : TA} {E : L2.St → XK}
theorem pe_mX {pl : Sem Bool} (c : MetX X.prog X.w X.K X.mg X.base k C m sp) (hr : Room j X.A) (hk : k ≤ j) (hx : ∀ σ, PassesAt (L2.CX X.prog X.w) X σ (E σ)) (ho : PE X o ta) (ha : PA X (e :: es) t)
    (hst : starEach (e :: es) X.env = (false, eval e X.env) :: starEach es X.env := by rfl) (hpl : (backTo pos (starEach es X.env)).any (·.1) = false := by rfl)
    (ht : eval (.Call (.Attribute o m apos) (e :: es) [] pos) X.env = (do
      let obj ← eval o X.env
      standAt apos.atName
      let (fn, own) ← holding [obj] (getMethod obj m pl)
      callWith pos fn own (backTo pos (starEach (e :: es) X.env)) (backToKw pos (keywordEach [] X.env))) := by rfl) :
    PE X (.Call (.Attribute o m apos) (e :: es) [] pos) (tMethX C m sp E ta t) := by
  obtain ⟨f, fd, ps, hc, hm, F, b⟩ := c.ex
  exact ⟨fun pins s σ H Q I h => PySem.W.methodCall_KW (pl := pl) (thn (ho.run pins s σ H _ I h) fun u s1 ⟨y, H1, I1, ry, a, dx, fs, ey, ea, l, q⟩ => by
    subst ey
    cases (show u = Value.ref a from ry)
    exact getmeth_ok I1 ea hc hm l (PySem.W.callWith_K (first := [.ref a]) (h₀ := X.base) I.ok.mod.kin hm.kp (thn (ha.run pos pins s1 σ H1 _ I1 q) fun us s2 ⟨vs, H2, I2, r, q2⟩ => ⟨I2.kIn, run_fnS (us := .ref a :: us) (vs := .ref a :: vs) F (hr.mono hk) b (hx σ) I2 (.cons rfl r) q2⟩) hst hpl)) ht⟩
end
section
variable {P : Program} {w : World} {K : PySem.W.Frag} {mg : Str → Option Value} {base : Heap}
theorem metX {m qual : Str} {C : Addr} {st : Stmt} {f : Addr} {fd : FuncData} {N ps : List Str} {k : Nat} {sp : Sp} (c : Cls K C) (me : Meth K C m f) (F : C8.Fun K m qual st f fd) (b : Binds K fd ps []) (S : FnScope N ps (C8.fnScope st)) (len : ∀ vs H Q E, sp vs H Q E → vs.length = ps.length)
    (body : ∀ (cdv : Value) (A : Around) (outer : List Env) (s : Shared) (H : Hp) (vs : List V) (Q : VK) (E : XK), Room k (A.deeper (envOfC qual (C8.fnScope st) s.heap.objs.size f cdv)) → sp vs H Q E →
      ∃ t, PSs (cxOf (L2.CX P w) P w K mg base N qual (C8.fnScope st) f cdv A outer s H E) (C8.fnBody st) t ∧ t { nx := fun _ H' => Q .non H', rt := Q } (L2.start N vs) H) : MetX P w K mg base (k + 1) C m sp := by
  refine ⟨f, fd, ps, c, me, ?_, b⟩
  obtain ⟨oc, od, dV, kV, doc, pm, an, cdv, ct, osl, rfl, lk, hcd⟩ := F.ex
  exact fn_of lk hcd S len fun A outer s H vs Q E hr hsp => body cdv A outer s H vs Q E hr hsp
end
end Wd
/-! isinstance of a caught refusal that has a dict of its own, of a class or of a tuple of classes. -/
namespace Wd
open PySem PySem.Spec PySem.Calls PyProof.Rows PySem.W
section
variable {prog : Program} {w : World} {A : Around} {E : Value → Shared → Prop} {s : Shared} {K : Frag} {x D : Addr} {ox : Obj} {od : Option Obj}
theorem findObj_dataD {C : Addr} {name : Str} {a g : Value} (hc : (clsIn K C).isSome = true) (ha : findIn K (.ref C) name = some (some a)) (hg : specialIn K a "__get__" = some (some g)) (ht : takesIn K a = some true) : findObj K C od name = some (.bind g a) := by
  obtain ⟨cd, hc⟩ := Option.isSome_iff_exists.mp hc
  unfold findObj
  rw [hc, Option.bind_some, ha, Option.bind_some]
  simp [hg, ht]
theorem class_of_exc {Q : Option Value → Shared → Prop} (C : L2.ExcC K D) (X : K.In s.heap) (I : InstAt s.heap x ox D od) (h : Q (some (.ref D)) { s with toks := s.toks + 1 }) : wpAny (model prog w) A (getAttr? (.ref x) "__class__") Q E s := by
  have hf : findObj K D od "__class__" = some (.bind (.builtin "getset_descriptor.__get__") (.builtin "object.__class__")) := findObj_dataD (by obtain ⟨cd, hc, _⟩ := any_some C.hd; rw [hc]; rfl) C.ha C.hn C.ht
  obtain ⟨hp, g, d, t, os⟩ := s
  have L0 := I.type (M := model prog w)
  have L1 := looks_findIn (M := model prog w) X C.hg
  have L2 := looks_findIn (M := model prog w) X C.hk
  have L3 := looks_find (M := model prog w) X I hf
  have sub : Looks (model prog w) hp (isInstance (.ref x) (.type "BaseException")) true := L0.andThen (looks_subIn X C.hs)
  have hx0 : (false && onTheHeap (Value.builtin "BaseException.__getattribute__")) = false := rfl
  have hx2 : (Value.builtin "BaseException.__getattribute__" == Value.builtin "object.__getattribute__") = false := by decide +kernel
  have hx1 : (onTheHeap (Value.ref D) && Value.builtin "BaseException.__getattribute__" == Value.builtin "object.__getattribute__") = false := by rw [hx2]; rfl
  unfold getAttr? getAttrBy? getAttrBy
  refine wpAny_bind (wpAny_mkText (wpAny_bind (wpAny_attempt (wpAny_holding (wpAny_bind (L0.at (wpAny_bind (L1.at ?_))))))))
  show wpAny _ _ (if (onTheHeap (Value.ref D) && Value.builtin "BaseException.__getattribute__" == Value.builtin "object.__getattribute__") = true then _ else _) _ _ _
  rw [hx1, if_neg Bool.false_ne_true]
  unfold getAttrByItsOwn hookBefore
  refine wpAny_bind ?_
  rw [if_pos (show onTheHeap (Value.ref D) = true from rfl)]
  refine L2.at ?_
  refine wpAny_bind (wpAny_attempt (wpAny_holding ?_))
  unfold callGetattribute
  rw [hx0, if_neg Bool.false_ne_true]
  unfold boundAndCalled
  rw [PySem.F.excAttr_ValueError.ga.bind (.ref x)]
  refine wpAny_bind (wpAny_pure ?_)
  show wpAny _ _ (call (.builtin "BaseException.__getattribute__") [.ref x, .str "__class__" t]) _ _ _
  refine wpAny_call (codeAny_call_builtin PySem.F.excAttr_ValueError.ga.plain PySem.F.entry_bexc_ga ?_)
  refine @check_slot (model prog w) _ _ ⟨hp, g, d, t + 1, os⟩ "BaseException.__getattribute__" "BaseException" "__getattribute__" (.ref x) [.str "__class__" t] [] _ (by decide +kernel) (by decide +kernel) sub (PySem.F.args_bexc_ga (.ref x) (.str "__class__" t)) ?_
  unfold Builtin.«object.__getattribute__»
  refine wpAny_bind (wpAny_of_eq (a := ((Value.ref x : Value), [Value.str "__class__" t])) (by first | rfl | (simp only [slotArgs]; rfl)) ?_)
  refine wpAny_bind (wpAny_pure (wpAny_bind (L0.at (wpAny_bind (L3.at ?_)))))
  show wpAny _ _ (holding [Value.builtin "object.__class__"] (call (.builtin "getset_descriptor.__get__") [.builtin "object.__class__", .ref x, .ref D]) >>= ret) _ _ _
  refine wpAny_bind (wpAny_holding (wpAny_call (class_get (s := ⟨hp, g, d, t + 1, os⟩) (ox := ox) (od := od) X I C.hm ?_)))
  refine wpAny_pure ?_
  show wpAny _ _ (handedOut (.ref D)) _ _ _
  rw [handedOut_of (v := .ref D) rfl]
  first
    | exact wpAny_pure (wpAny_pure h)
    | exact wpAny_pure h
    | exact wpAny_pure (wpAny_bind (wpAny_pure (wpAny_pure h)))
theorem kitx_of_exc (C : L2.ExcC K D) : KitX K (.ref x) (.ref D) (fun h => InstAt h x ox D od) where
  ty := fun _ _ _ I => I.type
  it := fun _ _ X _ => by
    obtain ⟨cdD, hcD, _⟩ := any_some C.hd
    unfold clsIn at hcD
    split at hcD
    · rename_i c' d' cd' sl' ho
      intro A' Q' E' s' k q
      unfold isType loadHead
      exact wpAny_bind (wpAny_loadPart (k _ _ (X _ _ ho)) (wpAny_pure q))
    · cases hcD
  ne := fun h tp dd its n sl X htp => by
    obtain ⟨cdD, hcD, _⟩ := any_some C.hd
    refine Bool.eq_false_iff.mpr fun q => ?_
    have e : D = tp := Value.ref.inj (beq_iff_eq.mp q)
    subst e
    unfold clsIn at hcD
    split at hcD
    · rename_i c' d' cd' sl' ho
      have z := (X _ _ ho).symm.trans htp
      cases z
    · cases hcD
  ca := fun X I k => class_of_exc C X I k
end
end Wd
namespace Wd
open PySem PySem.Spec PyProof.Rows L2
/-- isinstance(e, c), e the exception that the suite holds, with a dict of its own or none -/
def rIsE3 (K : PySem.W.Frag) (cls : Value) (d : Option Addr) (a : Addr) : List V → Hp → VK → Prop := fun xs H Q => ∃ (D : Addr) (c : V) (cv : Value) (b : Bool), cls = .ref D ∧ (∀ dd, d = some dd → ∃ fs, H dd = some (.xd fs)) ∧ ExcC K D ∧ xs = [.ref a, c] ∧ (∀ u, RelV c u → u = cv) ∧ PySem.W.kitOne K (.ref D) cv = some b ∧ Q (.bl b) H
def rIsT3 (K : PySem.W.Frag) (cls : Value) (d : Option Addr) (a : Addr) : List V → Hp → VK → Prop := fun xs H Q => ∃ (D tp : Addr) (cs : List V) (us : List Value) (b : Bool), cls = .ref D ∧ (∀ dd, d = some dd → ∃ fs, H dd = some (.xd fs)) ∧ ExcC K D ∧ xs = [.ref a, .ref tp] ∧ H tp = some (.tup cs) ∧ Paired ClsV cs us ∧ PySem.W.kitAny K (.ref D) us = some b ∧ Q (.bl b) H
section
variable {X : Cx} {a : Addr} {cls : Value} {d : Option Addr} {oe : Obj} {pn : List (Addr × Obj)}
theorem inst_of_suite {pins : List (Addr × Obj)} {s : Shared} {σ : L2.St} {H : Hp} {D : Addr} (hz : Zc cls d oe) (hf : ∃ vs, oe.data = .fields vs) (I : Inv (X.suite a ((a, oe) :: pn)) pins σ H s) (e : cls = .ref D) (hd : ∀ dd, d = some dd → ∃ fs, H dd = some (.xd fs)) :
    ∃ od, PySem.W.InstAt s.heap a oe D od := by
  subst e
  obtain ⟨hget, _⟩ := I.pin (a, oe) (List.mem_append.mpr (.inl List.mem_cons_self))
  obtain ⟨vs, hv⟩ := hf
  cases d with
  | none => exact ⟨none, hget, hz.1, by unfold PySem.W.notCls; rw [hv] <;> rfl, by rw [hz.2]; exact trivial⟩
  | some dd =>
    obtain ⟨fs, h⟩ := hd dd rfl
    obtain ⟨mA, hns, _⟩ := (show ObjOk X.prog X.w H s.heap dd (.xd fs) from I.hok dd _ h)
    obtain ⟨od, ho, _⟩ := lookIn_ns hns
    exact ⟨some od, hget, hz.1, by unfold PySem.W.notCls; rw [hv] <;> rfl, by rw [hz.2]; exact ho⟩
theorem call_isE3 (hz : Zc cls d oe) (hf : ∃ vs, oe.data = .fields vs) : CallR (X.suite a ((a, oe) :: pn)) (.builtin "isinstance") (rIsE3 X.K cls d a) := by
  intro pins s σ H xs us Q I r h
  obtain ⟨D, c, cv, b, ec, hd, C, rfl, hcv, e, q⟩ := h
  obtain ⟨od, J⟩ := inst_of_suite hz hf I ec hd
  obtain ⟨u1, u2, rfl, r1, r2⟩ := vals2 r
  cases (show u1 = Value.ref a from r1)
  have e2 := hcv _ r2
  subst e2
  exact PySem.W.kia_one (kitx_of_exc C) I.kIn J e (fun z => nomatch z) fun tk => ⟨.bl b, H, I.kept (t' := tk) fun _ _ z => z, rfl, q⟩
theorem call_isT3 (hz : Zc cls d oe) (hf : ∃ vs, oe.data = .fields vs) : CallR (X.suite a ((a, oe) :: pn)) (.builtin "isinstance") (rIsT3 X.K cls d a) := by
  intro pins s σ H xs us Q I r h
  obtain ⟨D, tp, cs, ws, b, ec, hd, C, rfl, hT, k, e, q⟩ := h
  obtain ⟨od, J⟩ := inst_of_suite hz hf I ec hd
  obtain ⟨u1, u2, rfl, r1, r2⟩ := vals2 r
  cases (show u1 = Value.ref a from r1)
  cases (show u2 = Value.ref tp from r2)
  obtain ⟨_, its, rv, o, h1, h2, n, h3⟩ := (show ObjOk X.prog X.w H s.heap tp (.tup cs) from I.hok tp _ hT)
  have e3 := ClsV.all k rv
  subst e3
  obtain ⟨oc, odx, dt, sl⟩ := o
  simp only at h2 h3
  subst h2 h3
  exact PySem.W.kia_tup (kitx_of_exc C) I.kIn J h1 e (fun z => nomatch z) fun tk => ⟨.bl b, H, I.kept (t' := tk) fun _ _ z => z, rfl, q⟩
end
end Wd
namespace K04
open PySem PySem.Spec PyProof.Rows L2 Wd
def top (i : Nat) : Stmt := PySem.Challenge.pw_windowdog_k04_delays_refused.main.body.getD i (.Pass ⟨0, 0, 0, 0⟩)
/-- the built-in names that the text calls -/
structure Txt (K : PySem.W.Frag) (mg : Str → Option Value) : Prop where
  n_isinstance : mg "isinstance" = none
  n_len : mg "len" = none
  n_int : mg "int" = none
  n_bool : mg "bool" = none
  n_range : mg "range" = none
  n_list : mg "list" = none
  n_tuple : mg "tuple" = none
  n_str : mg "str" = none
  n_sum : mg "sum" = none
section
variable {P : Program} {w : World} {K : PySem.W.Frag} {mg : Str → Option Value} {base : Heap}
abbrev s_law_start : Stmt := top 27
theorem sc_law_start : FnScope ["_law_script", "_law_mixed", "_law_cell"] ["_law_script"] (C8.fnScope s_law_start) := C8.fnScope_by (by decide +kernel)
def sp_start (K : PySem.W.Frag) : Sp := fun vs H Q _ => ∃ (B : Hp) (sc : Addr) (ns : List Int), vs = [.ref sc] ∧ SqL K B sc (ns.map V.int) ∧ Same B H ∧ ns.length ≤ 63 ∧ ∀ H' S, H S = none → Same H H' → Dst K B H' S → Q (.ref S) H'
theorem ok_start (T : Txt K mg) {f : Addr} {fd : FuncData} (D : C8.Def K mg "_law_start" s_law_start f fd) (b : Binds K fd ["_law_script"] []) : C8.Cal P w K mg base 1 "_law_start" (sp_start K) [] := by
  refine C8.cal0 D b .nil sc_law_start (fun vs H Q E h => ?_) fun cdv A outer s H vs Q E hr h => ?_
  · obtain ⟨B, sc, ns, rfl, _⟩ := h; rfl
  · obtain ⟨B, sc, ns, rfl, hB, sB, hl, q⟩ := h
    have hS := list_same sB hB
    have nd := sc_law_start.nd
    refine ⟨_, (pss_cons (ps_set (i := 1) nd rfl (Or.inl rfl) pe_int)
      (pss_cons (ps_for PassesOwn.never rfl (pi_list (pv 0)) (pg_name (i := 2) nd rfl (Or.inl rfl)) (pss_one (ps_set (i := 1) nd rfl (Or.inl rfl) (pe_op op_mod (pe_op op_add (pe_op op_add (pe_op op_mulW (pv 1) pe_int) (pv 2)) pe_int) pe_int))))
      (pss_one (ps_ret (pe_lst (pa_cons (pv 0) (pa_cons pe_int (pa_cons (pv 1) (pa_cons pe_int pa_nil))))))))), ?_⟩
    walk_at "go"
    refine w_list (xs := ns.map V.int) (fun i σ H' => H' = H ∧ ∃ (m : Int) (v : Option V), σ = [some (.ref sc), some (.int m), v] ∧ 0 ≤ m ∧ m < 2147483647) ?_ ?_ ?_ ?_
    · exact ⟨rfl, 1, none, rfl, by decide, by decide⟩
    · rintro i σ H' _ ⟨rfl, _⟩; exact hS
    · rintro i x σ H' hx ⟨rfl, m, v, rfl, h1, h2⟩
      obtain ⟨c, hc, rfl⟩ := map_at hx
      walk_at "go"
      refine g_I (mulW_small h1 (by omega) (by decide) (by decide)) ?_
      walk_at "go"
      refine g_I (show (0 : Int) < 2147483647 by decide) ?_
      walk_at "go"
      exact ⟨rfl, _, _, rfl, by omega, by omega⟩
    · rintro σ H' ⟨rfl, m, v, rfl, h1, h2⟩
      walk_at "go"
      intro S hn
      exact q _ S hn (same_new hn) ⟨sc, ns, 0, m, 0, upd_same, .of hB (fun _ _ h => h) (Same.back sB hn), .of (sB.trans (same_new hn)), hl, by decide, h1, h2⟩

abbrev s_law_drawn : Stmt := top 28
theorem sc_law_drawn : FnScope ["_law_state", "_law_many", "_law_found", "_law_cell"] ["_law_state", "_law_many"] (C8.fnScope s_law_drawn) := C8.fnScope_by (by decide +kernel)
def sp_drawn (K : PySem.W.Frag) : Sp := fun vs H Q _ => ∃ (B : Hp) (S : Addr) (n : Int), vs = [.ref S, .int n] ∧ Dst K B H S ∧ 0 < n ∧ n < 10 ^ 38 ∧ ∀ H' v, Frm S H H' → Dst K B H' S → 0 ≤ v → v < n → Q (.int v) H'
theorem ok_drawn (T : Txt K mg) {f : Addr} {fd : FuncData} (D : C8.Def K mg "_law_drawn" s_law_drawn f fd) (b : Binds K fd ["_law_state", "_law_many"] []) : C8.Cal P w K mg base 1 "_law_drawn" (sp_drawn K) [] := by
  refine C8.cal0 D b .nil sc_law_drawn (fun vs H Q E h => ?_) fun cdv A outer s H vs Q E hr h => ?_
  · obtain ⟨B, S, n, rfl, _⟩ := h; rfl
  · obtain ⟨B, S, n, rfl, ⟨sc, ns, c, m, r, hS, hsB, fB, hl, c0, m0, m1⟩, n0, n1, q⟩ := h
    have hsc := hsB.frm fB
    have nd := sc_law_drawn.nd
    refine ⟨_, (pss_cons (ps_if (pt_cmpR op_gt (pe_ix (r := rIxL K) ix_list (pv 0) pe_int (fun _ _ => rfl)) pe_int (nomark _)) (pss_cons (ps_set (i := 2) nd rfl (Or.inl rfl) (pe_op op_mod (pe_ix (r := rIxL K) ix_list (pv 0) pe_int (fun _ _ => rfl)) (pv 1)))
      (pss_cons (ps_asg (pe_op op_fdivW (pe_ix (r := rIxL K) ix_list (pv 0) pe_int (fun _ _ => rfl)) (pv 1)) (pg_sub (pv 0) pe_int set_list))
      (pss_one (ps_ret (pv 2))))) pss_nil)
      (pss_cons (ps_asg (pe_op op_add (pe_ix (r := rIxL K) ix_list (pv 0) pe_int (fun _ _ => rfl)) pe_int) (pg_sub (pv 0) pe_int set_list))
      (pss_cons (ps_if (pt_cmpR op_le (pe_ix (r := rIxL K) ix_list (pv 0) pe_int (fun _ _ => rfl)) (pe_callB (r := Wd.rLen K) call_len1 (by rfl) T.n_len PySem.boot_len (pa_cons (pe_ix (r := rIxL K) ix_list (pv 0) pe_int (fun _ _ => rfl)) pa_nil)) (nomark _)) (pss_cons (ps_set (i := 3) nd rfl (Or.inl rfl) (pe_ix (r := rIxL K) ix_list (pe_ix (r := rIxL K) ix_list (pv 0) pe_int (fun _ _ => rfl)) (pe_op op_sub (pe_ix (r := rIxL K) ix_list (pv 0) pe_int (fun _ _ => rfl)) pe_int) (fun _ _ => rfl)))
      (pss_cons (ps_asg (pe_ifExp (pt_cmpR op_ge (pv 3) (pe_op op_pow pe_int pe_int) (nomark _)) (pe_op op_fdivW (pv 3) (pv 1)) pe_int) (pg_sub (pv 0) pe_int set_list))
      (pss_one (ps_ret (pe_op op_mod (pv 3) (pv 1)))))) pss_nil)
      (pss_cons (ps_asg (pe_op op_mod (pe_op op_add (pe_op op_mulW (pe_ix (r := rIxL K) ix_list (pv 0) pe_int (fun _ _ => rfl)) pe_int) pe_int) pe_int) (pg_sub (pv 0) pe_int set_list))
      (pss_one (ps_ret (pe_op op_mod (pe_op op_fdivW (pe_ix (r := rIxL K) ix_list (pv 0) pe_int (fun _ _ => rfl)) pe_int) (pv 1)))))))), ?_⟩
    walk_at "go"
    refine g_ixL (SqL.of hS) rfl ?_
    walk_at "go"
    refine g_ite (fun hr0 => ?_) (fun hr0 => ?_)
    · walk_at "go"
      refine g_ixL (SqL.of hS) rfl ?_
      walk_at "go"
      refine g_I n0 ?_
      walk_at "go"
      refine g_ixL (SqL.of hS) rfl ?_
      walk_at "go"
      refine g_I (divW_small n0 n1) ?_
      walk_at "go"
      refine g_setL hS rfl ?_
      walk_at "go"
      exact q _ _ .set ⟨sc, ns, c, m, r / n, upd_same, hsB, fB.trans .set, hl, c0, m0, m1⟩ (Int.emod_nonneg _ (by omega)) (Int.emod_lt_of_pos _ n0)
    · walk_at "go"
      refine g_ixL (SqL.of hS) rfl ?_
      walk_at "go"
      refine g_setL hS rfl ?_
      walk_at "go"
      refine g_ixL (SqL.of upd_same) rfl ?_
      walk_at "go"
      refine g_ixL (SqL.of upd_same) rfl ?_
      walk_at "go"
      refine g_len (.inl (hsc.frm .set).sq) ?_
      walk_at "go"
      rw [List.length_map]
      refine g_ite (fun hc => ?_) (fun hc => ?_)
      · walk_at "go"
        refine g_ixL (SqL.of upd_same) rfl ?_
        walk_at "go"
        refine g_ixL (SqL.of upd_same) rfl ?_
        walk_at "go"
        have hcl : c.toNat < ns.length := by omega
        refine g_ixL (hsc.frm .set).sq (at_of (j := c.toNat) (v := V.int (ns[c.toNat]'hcl)) (by omega) (by rw [List.getElem?_map, List.getElem?_eq_getElem hcl]; rfl)) ?_
        generalize ns[c.toNat]'hcl = z
        walk_at "go"
        refine g_I (pow_small (by decide) (by decide) (by decide)) ?_
        walk_at "go"
        have fin : ∀ x : Int, Frm S H (upd (upd H S (HO.lst [V.ref sc, V.int (c + 1), V.int m, V.int r])) S (HO.lst [V.ref sc, V.int (c + 1), V.int m, V.int x])) ∧ Dst K B (upd (upd H S (HO.lst [V.ref sc, V.int (c + 1), V.int m, V.int r])) S (HO.lst [V.ref sc, V.int (c + 1), V.int m, V.int x])) S := fun x =>
          ⟨Frm.set.trans .set, sc, ns, c + 1, m, x, upd_same, hsB, (fB.trans .set).trans .set, hl, by omega, m0, m1⟩
        refine g_ite (fun hz => ?_) (fun hz => ?_)
        · walk_at "go"
          refine g_I (divW_small n0 n1) ?_
          walk_at "go"
          refine g_setL upd_same rfl ?_
          walk_at "go"
          refine g_I n0 ?_
          exact q _ _ (fin _).1 (fin _).2 (Int.emod_nonneg _ (by omega)) (Int.emod_lt_of_pos _ n0)
        · walk_at "go"
          refine g_setL upd_same rfl ?_
          walk_at "go"
          refine g_I n0 ?_
          exact q _ _ (fin _).1 (fin _).2 (Int.emod_nonneg _ (by omega)) (Int.emod_lt_of_pos _ n0)
      · walk_at "go"
        refine g_ixL (SqL.of upd_same) rfl ?_
        walk_at "go"
        refine g_I (mulW_small m0 (by omega) (by decide) (by decide)) ?_
        walk_at "go"
        refine g_I (show (0 : Int) < 2147483647 by decide) ?_
        walk_at "go"
        refine g_setL upd_same rfl ?_
        walk_at "go"
        refine g_ixL (SqL.of upd_same) rfl ?_
        walk_at "go"
        refine g_I (divW_small (by decide) (by decide)) ?_
        walk_at "go"
        refine g_I n0 ?_
        exact q _ _ (Frm.set.trans .set) ⟨sc, ns, c + 1, _, r, upd_same, hsB, (fB.trans .set).trans .set, hl, by omega, Int.emod_nonneg _ (by decide), Int.emod_lt_of_pos _ (by decide)⟩ (Int.emod_nonneg _ (by omega)) (Int.emod_lt_of_pos _ n0)
theorem use_drawn {B H : Hp} {S : Addr} {n : Int} {Q : VK} {E : XK} (d : Dst K B H S) (h0 : 0 < n) (h1 : n < 10 ^ 38) (k : ∀ H' v, Frm S H H' → Dst K B H' S → 0 ≤ v → v < n → Q (.int v) H') : sp_drawn K ([.ref S, .int n] ++ []) H Q E := ⟨B, S, n, rfl, d, h0, h1, k⟩

abbrev s_law_same : Stmt := top 29
theorem sc_law_same : FnScope ["_law_found", "_law_due", "_law_k"] ["_law_found", "_law_due"] (C8.fnScope s_law_same) := C8.fnScope_by (by decide +kernel)
/-- two things of the same data: told to be the same -/
def sp_same (K : PySem.W.Frag) : Nat → Sp
  | 0 => fun _ _ _ _ => False
  | n + 1 => fun vs H Q _ => ∃ (x y : V) (d : PyData), vs = [x, y] ∧ Dp K H x d ∧ Dp K H y d ∧ OkD n d ∧ ∀ H', Same H H' → Q (.bl true) H'
theorem same_step (T : Txt K mg) {n : Nat} {f : Addr} {fd : FuncData} (D : C8.Def K mg "_law_same" s_law_same f fd) (b : Binds K fd ["_law_found", "_law_due"] []) (g_law_same : C8.Cal P w K mg base n "_law_same" (sp_same K n) []) : C8.Cal P w K mg base (n + 1) "_law_same" (sp_same K (n + 1)) [] := by
  refine C8.cal0 D b .nil sc_law_same (fun vs H Q E h => ?_) fun cdv A outer s H vs Q E hr h => ?_
  · obtain ⟨x, y, d, rfl, _⟩ := h; rfl
  · obtain ⟨x, y, d, rfl, hx, hy, ok, q⟩ := h
    have nd := sc_law_same.nd
    have hr : Room n _ := hr
    refine ⟨_, (pss_cons (ps_if (pt_val (pe_callB (r := rIsiT K) call_isiT (by rfl) T.n_isinstance (by decide +kernel) (pa_cons (pv 1) (pa_cons (pe_tup (pa_cons (pe_bltn (v := .ty "tuple") (by rfl) T.n_tuple (by decide +kernel) rfl) (pa_cons (pe_bltn (v := .ty "list") (by rfl) T.n_list (by decide +kernel) rfl) pa_nil))) pa_nil)))) (pss_cons (ps_if (PW.pt (pw_or (pt_not (pt_val (pe_callB (r := rIsiT K) call_isiT (by rfl) T.n_isinstance (by decide +kernel) (pa_cons (pv 0) (pa_cons (pe_tup (pa_cons (pe_bltn (v := .ty "tuple") (by rfl) T.n_tuple (by decide +kernel) rfl) (pa_cons (pe_bltn (v := .ty "list") (by rfl) T.n_list (by decide +kernel) rfl) pa_nil))) pa_nil))))) (pw_or1 (pt_cmpR op_ne (pe_callB (r := rIsi K) call_isi (by rfl) T.n_isinstance (by decide +kernel) (pa_cons (pv 0) (pa_cons (pe_bltn (v := .ty "list") (by rfl) T.n_list (by decide +kernel) rfl) pa_nil))) (pe_callB (r := rIsi K) call_isi (by rfl) T.n_isinstance (by decide +kernel) (pa_cons (pv 1) (pa_cons (pe_bltn (v := .ty "list") (by rfl) T.n_list (by decide +kernel) rfl) pa_nil))) (nomark _))))) (pss_one (ps_ret pe_bl)) pss_nil)
      (pss_cons (ps_if (pt_cmpR op_ne (pe_callB (r := Wd.rLen K) call_len1 (by rfl) T.n_len PySem.boot_len (pa_cons (pv 0) pa_nil)) (pe_callB (r := Wd.rLen K) call_len1 (by rfl) T.n_len PySem.boot_len (pa_cons (pv 1) pa_nil)) (nomark _)) (pss_one (ps_ret pe_bl)) pss_nil)
      (pss_one (ps_ret (pe_cmpR (r := rEqD K) (op_eqD hr.units) (pe_lc (own := [("_law_k", 2)]) (g := gName 2) rfl nd (pi_range1 rfl T.n_range (pa_cons (pe_callB (r := Wd.rLen K) call_len1 (by rfl) T.n_len PySem.boot_len (pa_cons (pv 1) pa_nil)) pa_nil)) (blkOk_by (N := ["_law_found", "_law_due", "_law_k"]) (sc := C8.fnScope s_law_same) (by decide +kernel)) (fun _ _ _ _ _ => pg_name (i := 2) nd rfl (Or.inl rfl)) (fun _ _ _ _ _ => pts_one (pt_not (pt_val (C8.pe_c g_law_same hr (by first | decide | exact Nat.le_refl _ | omega) (by rfl) (pa_cons (pe_ix (r := rIx K) ix_seq (pv 0) (pv 2) (fun _ _ => rfl)) (pa_cons (pe_ix (r := rIx K) ix_seq (pv 1) (pv 2) (fun _ _ => rfl)) pa_nil)))))) (fun _ _ _ _ _ => (pv 2))) (pe_lst pa_nil) (nomark _)))))) pss_nil)
      (pss_cons (ps_if (pt_cmpR op_isN1 (pv 1) pe_non (nomark _)) (pss_one (ps_ret (pe_cmpR op_isN1 (pv 0) pe_non (nomark _)))) pss_nil)
      (pss_cons (ps_if (pt_val (pe_callB (r := rIsi K) call_isi (by rfl) T.n_isinstance (by decide +kernel) (pa_cons (pv 1) (pa_cons (pe_bltn (v := .ty "str") (by rfl) T.n_str (by decide +kernel) rfl) pa_nil)))) (pss_one (ps_ret (pe_and (pe_callB (r := rIsi K) call_isi (by rfl) T.n_isinstance (by decide +kernel) (pa_cons (pv 0) (pa_cons (pe_bltn (v := .ty "str") (by rfl) T.n_str (by decide +kernel) rfl) pa_nil))) (pe_one (pe_cmpR op_eq (pv 0) (pv 1) (nomark _)))))) pss_nil)
      (pss_cons (ps_if (PW.pt (pw_or (pt_val (pe_callB (r := rIsi K) call_isi (by rfl) T.n_isinstance (by decide +kernel) (pa_cons (pv 1) (pa_cons (pe_bltn (v := .ty "bool") (by rfl) T.n_bool (by decide +kernel) rfl) pa_nil)))) (pw_or1 (pt_val (pe_callB (r := rIsi K) call_isi (by rfl) T.n_isinstance (by decide +kernel) (pa_cons (pv 0) (pa_cons (pe_bltn (v := .ty "bool") (by rfl) T.n_bool (by decide +kernel) rfl) pa_nil))))))) (pss_one (ps_ret (pe_and (pe_callB (r := rIsi K) call_isi (by rfl) T.n_isinstance (by decide +kernel) (pa_cons (pv 1) (pa_cons (pe_bltn (v := .ty "bool") (by rfl) T.n_bool (by decide +kernel) rfl) pa_nil))) (pe_and (pe_callB (r := rIsi K) call_isi (by rfl) T.n_isinstance (by decide +kernel) (pa_cons (pv 0) (pa_cons (pe_bltn (v := .ty "bool") (by rfl) T.n_bool (by decide +kernel) rfl) pa_nil))) (pe_one (pe_cmpR op_eq (pv 0) (pv 1) (nomark _))))))) pss_nil)
      (pss_one (ps_ret (pe_and (pe_callB (r := rIsi K) call_isi (by rfl) T.n_isinstance (by decide +kernel) (pa_cons (pv 0) (pa_cons (pe_bltn (v := .ty "int") (by rfl) T.n_int (by decide +kernel) rfl) pa_nil))) (pe_one (pe_cmpR op_eq (pv 0) (pv 1) (nomark _)))))))))), ?_⟩
    walk_at "go"
    intro t1 ht1
    walk_at "go"
    have s1 := same_new (o := .tup [.ty "tuple", .ty "list"]) ht1
    have cls : Paired ClsV [.ty "tuple", .ty "list"] [.type "tuple", .type "list"] := .cons (.ty _) (.cons (.ty _) .nil)
    have hy1 := Dp_same s1 d y hy
    have hx1 := Dp_same s1 d x hx
    cases ok with
    | non =>
      cases hy1; cases hx1
      refine g_isiT upd_same cls (.base .non) (kit2 (r1 := false) (r2 := false) (by decide +kernel) (by decide +kernel)) ?_
      walk_at "go"
      exact q _ s1
    | str z =>
      cases hy1; cases hx1
      refine g_isiT upd_same cls (.base (.str _)) (kit2 (r1 := false) (r2 := false) (by decide +kernel) (by decide +kernel)) ?_
      walk_at "go"
      refine g_isiB (.ty _) (.base (.str _)) (b := true) (by decide +kernel) ?_
      walk_at "go"
      refine g_isiB (.ty _) (.base (.str _)) (b := true) (by decide +kernel) ?_
      walk_at "go"
      rw [decide_eq_true rfl]
      exact q _ s1
    | bl z =>
      cases hy1; cases hx1
      refine g_isiT upd_same cls (.base (.bl _)) (kit2 (r1 := false) (r2 := false) (by decide +kernel) (by decide +kernel)) ?_
      walk_at "go"
      refine g_isiB (.ty _) (.base (.bl _)) (b := false) (by decide +kernel) ?_
      walk_at "go"
      refine g_isiB (.ty _) (.base (.bl _)) (b := true) (by decide +kernel) ?_
      walk_at "go"
      refine g_isiB (.ty _) (.base (.bl _)) (b := true) (by decide +kernel) ?_
      walk_at "go"
      refine g_isiB (.ty _) (.base (.bl _)) (b := true) (by decide +kernel) ?_
      walk_at "go"
      rw [beq_self_eq_true]
      exact q _ s1
    | int z =>
      cases hy1; cases hx1
      refine g_isiT upd_same cls (.base (.int _)) (kit2 (r1 := false) (r2 := false) (by decide +kernel) (by decide +kernel)) ?_
      walk_at "go"
      refine g_isiB (.ty _) (.base (.int _)) (b := false) (by decide +kernel) ?_
      walk_at "go"
      refine g_isiB (.ty _) (.base (.int _)) (b := false) (by decide +kernel) ?_
      walk_at "go"
      refine g_isiB (.ty _) (.base (.int _)) (b := false) (by decide +kernel) ?_
      walk_at "go"
      refine g_isiB (.ty _) (.base (.int _)) (b := true) (by decide +kernel) ?_
      walk_at "go"
      rw [decide_eq_true rfl]
      exact q _ s1
    | @lst m ds hl hd =>
      cases hy1 with
      | @lst ay ys _ sy py =>
      cases hx1 with
      | @lst ax xs _ sx px =>
      refine g_isiT upd_same cls (ty_list sy) (kit2 (r1 := false) (r2 := true) (by decide +kernel) (by decide +kernel)) ?_
      walk_at "go"
      intro t2 ht2
      have s2 := s1.trans (same_new (o := .tup [.ty "tuple", .ty "list"]) ht2)
      have e2 := same_new (o := .tup [.ty "tuple", .ty "list"]) ht2
      walk_at "go"
      refine g_isiT upd_same cls (ty_list (list_same e2 sx)) (kit2 (r1 := false) (r2 := true) (by decide +kernel) (by decide +kernel)) ?_
      walk_at "go"
      refine g_isiB (.ty _) (ty_list (list_same e2 sx)) (b := true) (by decide +kernel) ?_
      walk_at "go"
      refine g_isiB (.ty _) (ty_list (list_same e2 sy)) (b := true) (by decide +kernel) ?_
      walk_at "go"
      refine g_len (.inl (list_same e2 sx)) ?_
      walk_at "go"
      refine g_len (.inl (list_same e2 sy)) ?_
      walk_at "go"
      rw [DpAll.len px, DpAll.len py]
      refine g_iteN (fun hh => absurd rfl hh) (fun _ => ?_)
      walk_at "go"
      refine g_len (.inl (list_same e2 sy)) ?_
      walk_at "go"
      rw [DpAll.len py]
      refine w_lcRange (by omega) (by omega) (fun D i H' => Same (upd H t1 (.tup [.ty "tuple", .ty "list"])) H' ∧ H' D = some (.lst [])) ?_ ?_ ?_
      · intro D hD
        exact ⟨e2.trans (same_new hD), upd_same⟩
      · rintro D i H' hD hi ⟨sm, eD⟩
        have hi' : i < ds.length := by omega
        have hdi : ds[i]? = some ds[i] := List.getElem?_eq_getElem hi'
        obtain ⟨vx, hvx, dvx⟩ := DpAll.at px hdi
        obtain ⟨vy, hvy, dvy⟩ := DpAll.at py hdi
        walk_at "go"
        refine ⟨rfl, ?_⟩
        walk_at "go"
        refine .inl ⟨ax, xs, _, vx, rfl, rfl, list_same sm sx, at_of (j := i) rfl hvx, ?_⟩
        walk_at "go"
        refine .inl ⟨ay, ys, _, vy, rfl, rfl, list_same sm sy, at_of (j := i) rfl hvy, ?_⟩
        walk_at "go"
        refine ⟨vx, vy, ds[i], rfl, Dp_same sm _ _ dvx, Dp_same sm _ _ dvy, hd _ (List.getElem_mem hi'), fun H3 s3 => ?_⟩
        walk_at "go"
        exact ⟨sm.trans s3, s3 _ _ eD⟩
      · rintro D H' hD ⟨sm, eD⟩
        walk_at "go"
        intro z hz
        walk_at "go"
        refine g_eqLI (ns := []) (ms := []) (SqL.of (same_new hz _ _ eD)) (SqL.of upd_same) ?_
        walk_at "go"
        exact q _ ((s1.trans sm).trans (same_new hz))
    | @tup m ds hl hd =>
      cases hy1 with
      | @tup ay ys _ sy py =>
      cases hx1 with
      | @tup ax xs _ sx px =>
      refine g_isiT upd_same cls (ty_tup sy) (kit2 (r1 := true) (r2 := false) (by decide +kernel) (by decide +kernel)) ?_
      walk_at "go"
      intro t2 ht2
      have s2 := s1.trans (same_new (o := .tup [.ty "tuple", .ty "list"]) ht2)
      have e2 := same_new (o := .tup [.ty "tuple", .ty "list"]) ht2
      walk_at "go"
      refine g_isiT upd_same cls (ty_tup (tup_same e2 sx)) (kit2 (r1 := true) (r2 := false) (by decide +kernel) (by decide +kernel)) ?_
      walk_at "go"
      refine g_isiB (.ty _) (ty_tup (tup_same e2 sx)) (b := false) (by decide +kernel) ?_
      walk_at "go"
      refine g_isiB (.ty _) (ty_tup (tup_same e2 sy)) (b := false) (by decide +kernel) ?_
      walk_at "go"
      refine g_len (.inr (tup_same e2 sx)) ?_
      walk_at "go"
      refine g_len (.inr (tup_same e2 sy)) ?_
      walk_at "go"
      rw [DpAll.len px, DpAll.len py]
      refine g_iteN (fun hh => absurd rfl hh) (fun _ => ?_)
      walk_at "go"
      refine g_len (.inr (tup_same e2 sy)) ?_
      walk_at "go"
      rw [DpAll.len py]
      refine w_lcRange (by omega) (by omega) (fun D i H' => Same (upd H t1 (.tup [.ty "tuple", .ty "list"])) H' ∧ H' D = some (.lst [])) ?_ ?_ ?_
      · intro D hD
        exact ⟨e2.trans (same_new hD), upd_same⟩
      · rintro D i H' hD hi ⟨sm, eD⟩
        have hi' : i < ds.length := by omega
        have hdi : ds[i]? = some ds[i] := List.getElem?_eq_getElem hi'
        obtain ⟨vx, hvx, dvx⟩ := DpAll.at px hdi
        obtain ⟨vy, hvy, dvy⟩ := DpAll.at py hdi
        walk_at "go"
        refine ⟨rfl, ?_⟩
        walk_at "go"
        refine .inr (.inl ⟨ax, xs, _, vx, rfl, rfl, tup_same sm sx, at_of (j := i) rfl hvx, ?_⟩)
        walk_at "go"
        refine .inr (.inl ⟨ay, ys, _, vy, rfl, rfl, tup_same sm sy, at_of (j := i) rfl hvy, ?_⟩)
        walk_at "go"
        refine ⟨vx, vy, ds[i], rfl, Dp_same sm _ _ dvx, Dp_same sm _ _ dvy, hd _ (List.getElem_mem hi'), fun H3 s3 => ?_⟩
        walk_at "go"
        exact ⟨sm.trans s3, s3 _ _ eD⟩
      · rintro D H' hD ⟨sm, eD⟩
        walk_at "go"
        intro z hz
        walk_at "go"
        refine g_eqLI (ns := []) (ms := []) (SqL.of (same_new hz _ _ eD)) (SqL.of upd_same) ?_
        walk_at "go"
        exact q _ ((s1.trans sm).trans (same_new hz))
/-- at every depth -/
theorem ok_same (T : Txt K mg) {f : Addr} {fd : FuncData} (D : C8.Def K mg "_law_same" s_law_same f fd) (b : Binds K fd ["_law_found", "_law_due"] []) : ∀ n : Nat, C8.Cal P w K mg base n "_law_same" (sp_same K n) []
  | 0 => ⟨f, fd, ["_law_found", "_law_due"], [], ⟨fun _ _ _ _ h => h.elim, fun _ _ _ _ _ _ _ _ _ _ _ _ _ h => h.elim⟩, D.mgf, D.kp, b, .nil⟩
  | n + 1 => same_step T D b (ok_same T D b n)
theorem use_same {n : Nat} {x y : V} {d : PyData} {H : Hp} {Q : VK} {E : XK} (hx : Dp K H x d) (hy : Dp K H y d) (ok : OkD n d) (k : ∀ H', Same H H' → Q (.bl true) H') : sp_same K (n + 1) ([x, y] ++ []) H Q E := ⟨x, y, d, rfl, hx, hy, ok, k⟩
end
end K04
namespace K04
open PySem PySem.Spec PyProof.Rows L2 Wd
section
variable {P : Program} {w : World} {K : PySem.W.Frag} {mg : Str → Option Value} {base : Heap}
mutual
theorem okP_up : ∀ (p : Pl) (d l : Nat), okP d l p → okP (d + 1) l p
  | .pat, d, l, h => by unfold okP; trivial
  | .work _ _, d, l, h => by unfold okP at h ⊢; exact h
  | .row ps, 0, l, h => by unfold okP at h; exact h.elim
  | .row ps, d + 1, l, h => by unfold okP at h ⊢; exact ⟨h.1, h.2.1, okPs_up ps d l h.2.2⟩
  | .either ps, 0, l, h => by unfold okP at h; exact h.elim
  | .either ps, d + 1, l, h => by unfold okP at h ⊢; exact ⟨h.1, h.2.1, okPs_up ps d l h.2.2⟩
  | .loop a b p, 0, l, h => by unfold okP at h; exact h.elim
  | .loop a b p, d + 1, 0, h => by unfold okP at h; exact h.elim
  | .loop a b p, d + 1, l + 1, h => by unfold okP at h ⊢; exact ⟨h.1, h.2.1, h.2.2.1, okP_up p d l h.2.2.2⟩
theorem okPs_up : ∀ (ps : List Pl) (d l : Nat), okPs d l ps → okPs (d + 1) l ps
  | [], d, l, h => by unfold okPs; trivial
  | p :: ps, d, l, h => by unfold okPs at h ⊢; exact ⟨okP_up p d l h.1, okPs_up ps d l h.2⟩
end
abbrev s_law_plan : Stmt := top 31
theorem sc_law_plan : FnScope ["_law_state", "_law_deep", "_law_loops", "_law_way", "_law_least", "_law_k", "_law_many"] ["_law_state", "_law_deep", "_law_loops"] (C8.fnScope s_law_plan) := C8.fnScope_by (by decide +kernel)
def sp_plan (K : PySem.W.Frag) : Nat → Sp
  | 0 => fun _ _ _ _ => False
  | d + 1 => fun vs H Q _ => ∃ (B : Hp) (S : Addr) (deep : Int) (l : Nat), vs = [.ref S, .int deep, .int l] ∧ Dst K B H S ∧ deep ≤ d + 1 ∧ ∀ H' v p, Frm S H H' → Dst K B H' S → PlA H' v p → okP d l p → Q v H'
theorem use_plan {d : Nat} {B H : Hp} {S : Addr} {deep z : Int} {l : Nat} {Q : VK} {E : XK} (hd : Dst K B H S) (hz : z = l) (h : deep ≤ d) (hp : 0 < d) (k : ∀ H' v p, Frm S H H' → Dst K B H' S → PlA H' v p → okP (d - 1) l p → Q v H') : sp_plan K d ([.ref S, .int deep, .int z] ++ []) H Q E := by
  subst hz
  match d, hp with
  | d + 1, _ => exact ⟨B, S, deep, l, rfl, hd, by omega, k⟩
theorem plan_step (T : Txt K mg) {d : Nat} {f : Addr} {fd : FuncData} (D : C8.Def K mg "_law_plan" s_law_plan f fd) (b : Binds K fd ["_law_state", "_law_deep", "_law_loops"] []) (g_law_drawn : C8.Cal P w K mg base 1 "_law_drawn" (sp_drawn K) [])
    (g_law_plan : C8.Cal P w K mg base (d + 1) "_law_plan" (sp_plan K d) []) : C8.Cal P w K mg base (d + 2) "_law_plan" (sp_plan K (d + 1)) [] := by
  refine C8.cal0 D b .nil sc_law_plan (fun vs H Q E h => ?_) fun cdv A outer s H vs Q E hr h => ?_
  · obtain ⟨B, S, deep, l, rfl, _⟩ := h; rfl
  · obtain ⟨B, S, deep, l, rfl, hd, hdeep, q⟩ := h
    have nd := sc_law_plan.nd
    have hr : Room (d + 1) _ := hr
    refine ⟨_, (pss_cons (ps_set (i := 3) nd rfl (Or.inl rfl) (C8.pe_c g_law_drawn hr (by first | decide | exact Nat.le_refl _ | omega) (by rfl) (pa_cons (pv 0) (pa_cons pe_int pa_nil))))
      (pss_cons (ps_if (PW.pt (pw_or (pt_cmpR op_lt (pv 1) pe_int (nomark _)) (pw_or1 (pt_cmpR op_lt (pv 3) pe_int (nomark _))))) (pss_cons (ps_set (i := 4) nd rfl (Or.inl rfl) (C8.pe_c g_law_drawn hr (by first | decide | exact Nat.le_refl _ | omega) (by rfl) (pa_cons (pv 0) (pa_cons pe_int pa_nil))))
      (pss_one (ps_ret (pe_ix (r := rIxL K) ix_list (pe_lst (pa_cons (pe_tup (pa_cons pe_str pa_nil)) (pa_cons (pe_tup (pa_cons pe_str (pa_cons (pv 4) (pa_cons (pe_op op_add (pv 4) (C8.pe_c g_law_drawn hr (by first | decide | exact Nat.le_refl _ | omega) (by rfl) (pa_cons (pv 0) (pa_cons pe_int pa_nil)))) pa_nil)))) pa_nil))) (pe_callTy call_intB (by rfl) T.n_int (by decide +kernel) (pa_cons (pe_cmpR op_gt (pe_op op_mod (pv 3) pe_int) pe_int (nomark _)) pa_nil)) (fun _ _ => rfl))))) pss_nil)
      (pss_cons (ps_if (PW.pt (pw_or (pt_cmpR op_lt (pv 3) pe_int (nomark _)) (pw_or1 (PW.pt (pw_and (pt_cmpR op_eq (pv 3) pe_int (nomark _)) (pw_and1 (pt_cmpR op_eq (pv 2) pe_int (nomark _)))))))) (pss_one (ps_ret (pe_tup (pa_cons pe_str (pa_cons (pe_callTy (r := rTupOf K) call_tuple1 (by rfl) T.n_tuple (by decide +kernel) (pa_cons (pe_lc (own := [("_law_k", 5)]) (g := gName 5) (tt := tYes) rfl nd (pi_range1 rfl T.n_range (pa_cons (pe_op op_add pe_int (C8.pe_c g_law_drawn hr (by first | decide | exact Nat.le_refl _ | omega) (by rfl) (pa_cons (pv 0) (pa_cons pe_int pa_nil)))) pa_nil)) (blkOk_by (N := ["_law_state", "_law_deep", "_law_loops", "_law_way", "_law_least", "_law_k", "_law_many"]) (sc := C8.fnScope s_law_plan) (by decide +kernel)) (fun _ _ _ _ _ => pg_name (i := 5) nd rfl (Or.inl rfl)) (fun _ _ _ _ _ => pts_nil) (fun _ _ _ _ _ => (C8.pe_c g_law_plan hr (by first | decide | exact Nat.le_refl _ | omega) (by rfl) (pa_cons (pv 0) (pa_cons (pe_op op_sub (pv 1) pe_int) (pa_cons (pv 2) pa_nil)))))) pa_nil)) pa_nil))))) pss_nil)
      (pss_cons (ps_if (pt_cmpR op_eq (pv 3) pe_int (nomark _)) (pss_cons (ps_set (i := 6) nd rfl (Or.inr rfl) (pe_op op_add pe_int (C8.pe_c g_law_drawn hr (by first | decide | exact Nat.le_refl _ | omega) (by rfl) (pa_cons (pv 0) (pa_cons (pe_ix (r := rIxL K) ix_list (pe_lst (pa_cons pe_int (pa_cons pe_int (pa_cons pe_int (pa_cons pe_int pa_nil))))) (C8.pe_c g_law_drawn hr (by first | decide | exact Nat.le_refl _ | omega) (by rfl) (pa_cons (pv 0) (pa_cons pe_int pa_nil))) (fun _ _ => rfl)) pa_nil)))))
      (pss_one (ps_ret (pe_tup (pa_cons pe_str (pa_cons (pe_callTy (r := rTupOf K) call_tuple1 (by rfl) T.n_tuple (by decide +kernel) (pa_cons (pe_lc (own := [("_law_k", 5)]) (g := gName 5) (tt := tYes) rfl nd (pi_range1 rfl T.n_range (pa_cons (pv 6) pa_nil)) (blkOk_by (N := ["_law_state", "_law_deep", "_law_loops", "_law_way", "_law_least", "_law_k", "_law_many"]) (sc := C8.fnScope s_law_plan) (by decide +kernel)) (fun _ _ _ _ _ => pg_name (i := 5) nd rfl (Or.inl rfl)) (fun _ _ _ _ _ => pts_nil) (fun _ _ _ _ _ => (C8.pe_c g_law_plan hr (by first | decide | exact Nat.le_refl _ | omega) (by rfl) (pa_cons (pv 0) (pa_cons (pe_op op_sub (pe_op op_sub (pv 1) pe_int) (pe_callTy call_intB (by rfl) T.n_int (by decide +kernel) (pa_cons (pe_cmpR op_gt (pv 6) pe_int (nomark _)) pa_nil))) (pa_cons (pv 2) pa_nil)))))) pa_nil)) pa_nil)))))) pss_nil)
      (pss_cons (ps_set (i := 4) nd rfl (Or.inl rfl) (C8.pe_c g_law_drawn hr (by first | decide | exact Nat.le_refl _ | omega) (by rfl) (pa_cons (pv 0) (pa_cons (pe_ix (r := rIxL K) ix_list (pe_lst (pa_cons pe_int (pa_cons pe_int (pa_cons pe_int (pa_cons pe_int pa_nil))))) (C8.pe_c g_law_drawn hr (by first | decide | exact Nat.le_refl _ | omega) (by rfl) (pa_cons (pv 0) (pa_cons pe_int pa_nil))) (fun _ _ => rfl)) pa_nil))))
      (pss_one (ps_ret (pe_tup (pa_cons pe_str (pa_cons (pv 4) (pa_cons (pe_op op_add (pv 4) (C8.pe_c g_law_drawn hr (by first | decide | exact Nat.le_refl _ | omega) (by rfl) (pa_cons (pv 0) (pa_cons pe_int pa_nil)))) (pa_cons (C8.pe_c g_law_plan hr (by first | decide | exact Nat.le_refl _ | omega) (by rfl) (pa_cons (pv 0) (pa_cons (pe_op op_sub (pv 1) pe_int) (pa_cons (pe_op op_sub (pv 2) pe_int) pa_nil)))) pa_nil)))))))))))), ?_⟩
    walk_at "go"
    refine use_drawn (n := 9) hd (by decide) (by decide) fun H1 way f1 d1 w0 w1 => ?_
    walk_at "go"
    refine g_ite (fun hc => ?_) (fun hc => ?_)
    · --
      walk_at "go"
      refine use_drawn (n := 4) d1 (by decide) (by decide) fun H2 a f2 d2 a0 a1 => ?_
      walk_at "go"
      intro q1 hq1
      have d3 := d2.same (same_new (o := .tup [.str "pat"]) hq1)
      have L3 := Live.new (o := .tup [.str "pat"]) (L := []) Live.nil hq1 d2.has
      walk_at "go"
      refine use_drawn (n := 3) d3 (by decide) (by decide) fun H4 c f4 d4 c0 c1 => ?_
      have L4 := L3.frm f4
      walk_at "go"
      intro q2 hq2
      have d5 := d4.same (same_new (o := .tup [.str "work", .int a, .int (a + c)]) hq2)
      have L5 := L4.new (o := .tup [.str "work", .int a, .int (a + c)]) hq2 d4.has
      walk_at "go"
      intro l hl
      have d6 := d5.same (same_new (o := .lst [.ref q1, .ref q2]) hl)
      have L6 := L5.new (o := .lst [.ref q1, .ref q2]) hl d5.has
      walk_at "go"
      refine g_I (show (0 : Int) < 5 by decide) ?_
      walk_at "go"
      have fr : Frm S H _ := ((((f1.trans f2).trans (.new hq1)).trans f4).trans (.new hq2)).trans (.new (o := .lst [.ref q1, .ref q2]) hl)
      by_cases hw : way % 5 > 1
      · refine g_ixL (v := .ref q2) (SqL.of upd_same) (by rw [show decide (1 < way % 5) = true from decide_eq_true hw]; rfl) ?_
        exact q _ _ (.work a (a + c)) fr d6 (.work (L6.get 1 rfl)) (by unfold okP; exact ⟨a0, by omega, by omega⟩)
      · refine g_ixL (v := .ref q1) (SqL.of upd_same) (by rw [show decide (1 < way % 5) = false from decide_eq_false hw]; rfl) ?_
        exact q _ _ .pat fr d6 (.pat (L6.get 2 rfl)) (by unfold okP; trivial)
    · walk_at "go"
      refine g_ite (fun hc2 => ?_) (fun hc2 => ?_)
      · --
        walk_at "go"
        refine use_drawn (n := 4) d1 (by decide) (by decide) fun H2 a f2 d2 a0 a1 => ?_
        walk_at "go"
        intro q1 hq1
        have d3 := d2.same (same_new (o := .tup [.str "pat"]) hq1)
        have L3 := Live.new (o := .tup [.str "pat"]) (L := []) Live.nil hq1 d2.has
        walk_at "go"
        refine use_drawn (n := 3) d3 (by decide) (by decide) fun H4 c f4 d4 c0 c1 => ?_
        have L4 := L3.frm f4
        walk_at "go"
        intro q2 hq2
        have d5 := d4.same (same_new (o := .tup [.str "work", .int a, .int (a + c)]) hq2)
        have L5 := L4.new (o := .tup [.str "work", .int a, .int (a + c)]) hq2 d4.has
        walk_at "go"
        intro l hl
        have d6 := d5.same (same_new (o := .lst [.ref q1, .ref q2]) hl)
        have L6 := L5.new (o := .lst [.ref q1, .ref q2]) hl d5.has
        walk_at "go"
        refine g_I (show (0 : Int) < 5 by decide) ?_
        walk_at "go"
        have fr : Frm S H _ := ((((f1.trans f2).trans (.new hq1)).trans f4).trans (.new hq2)).trans (.new (o := .lst [.ref q1, .ref q2]) hl)
        by_cases hw : way % 5 > 1
        · refine g_ixL (v := .ref q2) (SqL.of upd_same) (by rw [show decide (1 < way % 5) = true from decide_eq_true hw]; rfl) ?_
          exact q _ _ (.work a (a + c)) fr d6 (.work (L6.get 1 rfl)) (by unfold okP; exact ⟨a0, by omega, by omega⟩)
        · refine g_ixL (v := .ref q1) (SqL.of upd_same) (by rw [show decide (1 < way % 5) = false from decide_eq_false hw]; rfl) ?_
          exact q _ _ .pat fr d6 (.pat (L6.get 2 rfl)) (by unfold okP; trivial)
      · have dpos : 0 < d := by omega
        obtain ⟨d, rfl⟩ : ∃ d', d = d' + 1 := ⟨d - 1, by omega⟩
        walk_at "go"
        refine g_ite (fun h7 => ?_) (fun h7 => ?_)
        · --
          walk_at "go"
          refine use_drawn (n := 3) d1 (by decide) (by decide) fun H2 c f2 d2 c0 c1 => ?_
          have f12 := f1.trans f2
          walk_at "go"
          refine w_lcRange (by omega) (by omega) (fun D i H' => ∃ (vs : List V) (ps : List Pl), Frm S H H' ∧ Dst K B H' S ∧ H' D = some (.lst vs) ∧ PlAs H' vs ps ∧ okPs d l ps ∧ ps.length = i) ?_ ?_ ?_
          · intro D hD
            exact ⟨[], [], f12.trans (.new hD), d2.same (same_new hD), upd_same, .nil, by unfold okPs; trivial, rfl⟩
          · rintro D i H5 hD hi ⟨vs, ps, f5, d5, e5, p5, o5, l5⟩
            have nD := d2.ne hD
            have hD0 := f12.back nD hD
            walk_at "go"
            refine ⟨rfl, ?_⟩
            walk_at "go"
            refine use_plan d5 rfl (by omega) (by omega) fun H6 v p f6 d6 pv po => ?_
            walk_at "go"
            have e6 := f6 _ _ nD e5
            refine ⟨vs, e6, small_lt (by rw [p5.len, l5]; omega), ?_⟩
            exact ⟨vs ++ [v], ps ++ [p], (f5.trans f6).mut hD0, d6.mut nD (d2.fresh hD), upd_same, (PlAs_keep ((keepT_frm d5 f6).trans (keepT_lst e6)) _ _ p5).snoc (PlA_keep (keepT_lst e6) _ _ pv), okPs_snoc o5 po, by rw [List.length_append, l5]; rfl⟩
          · rintro D H5 hD ⟨vs, ps, f5, d5, e5, p5, o5, l5⟩
            walk_at "go"
            refine g_tupOf (SqL.of e5) ?_
            intro t ht
            have d6 := d5.same (same_new (o := .tup vs) ht)
            walk_at "go"
            intro r hr
            exact q _ _ (.row ps) ((f5.trans (.new ht)).trans (.new hr)) (d6.same (same_new hr)) (.row upd_same (same_new hr _ _ upd_same) (PlAs_keep ((keepT_new ht).trans (keepT_new hr)) _ _ p5)) (by unfold okP; exact ⟨by omega, by omega, o5⟩)
        · walk_at "go"
          refine g_ite (fun h8 => ?_) (fun h8 => ?_)
          · walk_at "go"
            refine g_ite (fun h0 => ?_) (fun h0 => ?_)
            · --
              walk_at "go"
              refine use_drawn (n := 3) d1 (by decide) (by decide) fun H2 c f2 d2 c0 c1 => ?_
              have f12 := f1.trans f2
              walk_at "go"
              refine w_lcRange (by omega) (by omega) (fun D i H' => ∃ (vs : List V) (ps : List Pl), Frm S H H' ∧ Dst K B H' S ∧ H' D = some (.lst vs) ∧ PlAs H' vs ps ∧ okPs d l ps ∧ ps.length = i) ?_ ?_ ?_
              · intro D hD
                exact ⟨[], [], f12.trans (.new hD), d2.same (same_new hD), upd_same, .nil, by unfold okPs; trivial, rfl⟩
              · rintro D i H5 hD hi ⟨vs, ps, f5, d5, e5, p5, o5, l5⟩
                have nD := d2.ne hD
                have hD0 := f12.back nD hD
                walk_at "go"
                refine ⟨rfl, ?_⟩
                walk_at "go"
                refine use_plan d5 rfl (by omega) (by omega) fun H6 v p f6 d6 pv po => ?_
                walk_at "go"
                have e6 := f6 _ _ nD e5
                refine ⟨vs, e6, small_lt (by rw [p5.len, l5]; omega), ?_⟩
                exact ⟨vs ++ [v], ps ++ [p], (f5.trans f6).mut hD0, d6.mut nD (d2.fresh hD), upd_same, (PlAs_keep ((keepT_frm d5 f6).trans (keepT_lst e6)) _ _ p5).snoc (PlA_keep (keepT_lst e6) _ _ pv), okPs_snoc o5 po, by rw [List.length_append, l5]; rfl⟩
              · rintro D H5 hD ⟨vs, ps, f5, d5, e5, p5, o5, l5⟩
                walk_at "go"
                refine g_tupOf (SqL.of e5) ?_
                intro t ht
                have d6 := d5.same (same_new (o := .tup vs) ht)
                walk_at "go"
                intro r hr
                exact q _ _ (.row ps) ((f5.trans (.new ht)).trans (.new hr)) (d6.same (same_new hr)) (.row upd_same (same_new hr _ _ upd_same) (PlAs_keep ((keepT_new ht).trans (keepT_new hr)) _ _ p5)) (by unfold okP; exact ⟨by omega, by omega, o5⟩)
            · --
              walk_at "go"
              refine g_ite (fun h9 => ?_) (fun h9 => ?_)
              · walk_at "go"
                intro l1 hl1
                have d2 := d1.same (same_new (o := .lst [.int 3, .int 3, .int 3, .int 10]) hl1)
                walk_at "go"
                refine use_drawn (n := 4) d2 (by decide) (by decide) fun H3 a f3 d3 a0 a1 => ?_
                have e3 := f3 _ _ (d1.ne hl1) upd_same
                obtain ⟨x, hx, hx2⟩ := atI_mem (xs := [.int 3, .int 3, .int 3, .int 10]) a0 a1
                refine g_ixL (SqL.of e3) hx2 ?_
                obtain ⟨n, rfl, n0, n1⟩ : ∃ z, x = V.int z ∧ 0 < z ∧ z ≤ 10 := by
                  simp only [List.mem_cons, List.not_mem_nil, or_false] at hx
                  rcases hx with rfl | rfl | rfl | rfl <;> exact ⟨_, rfl, by decide, by decide⟩
                walk_at "go"
                refine use_drawn d3 n0 (by omega) fun H4 c f4 d4 c0 c1 => ?_
                have f14 := ((f1.trans (.new hl1)).trans f3).trans f4
                walk_at "go"
                refine w_lcRange (by omega) (by omega) (fun D i H' => ∃ (vs : List V) (ps : List Pl), Frm S H H' ∧ Dst K B H' S ∧ H' D = some (.lst vs) ∧ PlAs H' vs ps ∧ okPs d l ps ∧ ps.length = i) ?_ ?_ ?_
                · intro D hD
                  exact ⟨[], [], f14.trans (.new hD), d4.same (same_new hD), upd_same, .nil, by unfold okPs; trivial, rfl⟩
                · rintro D i H5 hD hi ⟨vs, ps, f5, d5, e5, p5, o5, l5⟩
                  have nD := d4.ne hD
                  have hD0 := f14.back nD hD
                  walk_at "go"
                  refine ⟨rfl, ?_⟩
                  walk_at "go"
                  refine use_plan d5 rfl (by split <;> omega) (by omega) fun H6 v p f6 d6 pv po => ?_
                  walk_at "go"
                  have e6 := f6 _ _ nD e5
                  refine ⟨vs, e6, small_lt (by rw [p5.len, l5]; omega), ?_⟩
                  exact ⟨vs ++ [v], ps ++ [p], (f5.trans f6).mut hD0, d6.mut nD (d4.fresh hD), upd_same, (PlAs_keep ((keepT_frm d5 f6).trans (keepT_lst e6)) _ _ p5).snoc (PlA_keep (keepT_lst e6) _ _ pv), okPs_snoc o5 po, by rw [List.length_append, l5]; rfl⟩
                · rintro D H5 hD ⟨vs, ps, f5, d5, e5, p5, o5, l5⟩
                  walk_at "go"
                  refine g_tupOf (SqL.of e5) ?_
                  intro t ht
                  have d6 := d5.same (same_new (o := .tup vs) ht)
                  walk_at "go"
                  intro r hr
                  exact q _ _ (.either ps) ((f5.trans (.new ht)).trans (.new hr)) (d6.same (same_new hr)) (.either upd_same (same_new hr _ _ upd_same) (PlAs_keep ((keepT_new ht).trans (keepT_new hr)) _ _ p5)) (by unfold okP; exact ⟨by omega, by omega, o5⟩)
              · walk_at "go"
                intro l1 hl1
                have d2 := d1.same (same_new (o := .lst [.int 2, .int 2, .int 2, .int 9]) hl1)
                walk_at "go"
                refine use_drawn (n := 4) d2 (by decide) (by decide) fun H3 a f3 d3 a0 a1 => ?_
                have e3 := f3 _ _ (d1.ne hl1) upd_same
                obtain ⟨x, hx, hx2⟩ := atI_mem (xs := [.int 2, .int 2, .int 2, .int 9]) a0 a1
                refine g_ixL (SqL.of e3) hx2 ?_
                obtain ⟨n, rfl, n0, n1⟩ : ∃ z, x = V.int z ∧ 0 < z ∧ z ≤ 9 := by
                  simp only [List.mem_cons, List.not_mem_nil, or_false] at hx
                  rcases hx with rfl | rfl | rfl | rfl <;> exact ⟨_, rfl, by decide, by decide⟩
                walk_at "go"
                refine use_drawn d3 n0 (by omega) fun H4 c f4 d4 c0 c1 => ?_
                walk_at "go"
                refine use_drawn (n := 2) d4 (by decide) (by decide) fun H5 g f5 d5 g0 g1 => ?_
                walk_at "go"
                have lpos : 0 < l := by omega
                obtain ⟨l, rfl⟩ : ∃ l', l = l' + 1 := ⟨l - 1, by omega⟩
                refine use_plan (l := l) d5 (by omega) (by omega) (by omega) fun H6 v p f6 d6 pv po => ?_
                walk_at "go"
                intro r hr
                exact q _ _ (.loop c (c + g) p) ((((((f1.trans (.new hl1)).trans f3).trans f4).trans f5).trans f6).trans (.new hr)) (d6.same (same_new hr)) (.loop upd_same (PlA_keep (keepT_new hr) _ _ pv)) (by unfold okP; exact ⟨c0, by omega, by omega, po⟩)
          · --
            walk_at "go"
            refine g_ite (fun h9 => ?_) (fun h9 => ?_)
            · walk_at "go"
              intro l1 hl1
              have d2 := d1.same (same_new (o := .lst [.int 3, .int 3, .int 3, .int 10]) hl1)
              walk_at "go"
              refine use_drawn (n := 4) d2 (by decide) (by decide) fun H3 a f3 d3 a0 a1 => ?_
              have e3 := f3 _ _ (d1.ne hl1) upd_same
              obtain ⟨x, hx, hx2⟩ := atI_mem (xs := [.int 3, .int 3, .int 3, .int 10]) a0 a1
              refine g_ixL (SqL.of e3) hx2 ?_
              obtain ⟨n, rfl, n0, n1⟩ : ∃ z, x = V.int z ∧ 0 < z ∧ z ≤ 10 := by
                simp only [List.mem_cons, List.not_mem_nil, or_false] at hx
                rcases hx with rfl | rfl | rfl | rfl <;> exact ⟨_, rfl, by decide, by decide⟩
              walk_at "go"
              refine use_drawn d3 n0 (by omega) fun H4 c f4 d4 c0 c1 => ?_
              have f14 := ((f1.trans (.new hl1)).trans f3).trans f4
              walk_at "go"
              refine w_lcRange (by omega) (by omega) (fun D i H' => ∃ (vs : List V) (ps : List Pl), Frm S H H' ∧ Dst K B H' S ∧ H' D = some (.lst vs) ∧ PlAs H' vs ps ∧ okPs d l ps ∧ ps.length = i) ?_ ?_ ?_
              · intro D hD
                exact ⟨[], [], f14.trans (.new hD), d4.same (same_new hD), upd_same, .nil, by unfold okPs; trivial, rfl⟩
              · rintro D i H5 hD hi ⟨vs, ps, f5, d5, e5, p5, o5, l5⟩
                have nD := d4.ne hD
                have hD0 := f14.back nD hD
                walk_at "go"
                refine ⟨rfl, ?_⟩
                walk_at "go"
                refine use_plan d5 rfl (by split <;> omega) (by omega) fun H6 v p f6 d6 pv po => ?_
                walk_at "go"
                have e6 := f6 _ _ nD e5
                refine ⟨vs, e6, small_lt (by rw [p5.len, l5]; omega), ?_⟩
                exact ⟨vs ++ [v], ps ++ [p], (f5.trans f6).mut hD0, d6.mut nD (d4.fresh hD), upd_same, (PlAs_keep ((keepT_frm d5 f6).trans (keepT_lst e6)) _ _ p5).snoc (PlA_keep (keepT_lst e6) _ _ pv), okPs_snoc o5 po, by rw [List.length_append, l5]; rfl⟩
              · rintro D H5 hD ⟨vs, ps, f5, d5, e5, p5, o5, l5⟩
                walk_at "go"
                refine g_tupOf (SqL.of e5) ?_
                intro t ht
                have d6 := d5.same (same_new (o := .tup vs) ht)
                walk_at "go"
                intro r hr
                exact q _ _ (.either ps) ((f5.trans (.new ht)).trans (.new hr)) (d6.same (same_new hr)) (.either upd_same (same_new hr _ _ upd_same) (PlAs_keep ((keepT_new ht).trans (keepT_new hr)) _ _ p5)) (by unfold okP; exact ⟨by omega, by omega, o5⟩)
            · walk_at "go"
              intro l1 hl1
              have d2 := d1.same (same_new (o := .lst [.int 2, .int 2, .int 2, .int 9]) hl1)
              walk_at "go"
              refine use_drawn (n := 4) d2 (by decide) (by decide) fun H3 a f3 d3 a0 a1 => ?_
              have e3 := f3 _ _ (d1.ne hl1) upd_same
              obtain ⟨x, hx, hx2⟩ := atI_mem (xs := [.int 2, .int 2, .int 2, .int 9]) a0 a1
              refine g_ixL (SqL.of e3) hx2 ?_
              obtain ⟨n, rfl, n0, n1⟩ : ∃ z, x = V.int z ∧ 0 < z ∧ z ≤ 9 := by
                simp only [List.mem_cons, List.not_mem_nil, or_false] at hx
                rcases hx with rfl | rfl | rfl | rfl <;> exact ⟨_, rfl, by decide, by decide⟩
              walk_at "go"
              refine use_drawn d3 n0 (by omega) fun H4 c f4 d4 c0 c1 => ?_
              walk_at "go"
              refine use_drawn (n := 2) d4 (by decide) (by decide) fun H5 g f5 d5 g0 g1 => ?_
              walk_at "go"
              have lpos : 0 < l := by omega
              obtain ⟨l, rfl⟩ : ∃ l', l = l' + 1 := ⟨l - 1, by omega⟩
              refine use_plan (l := l) d5 (by omega) (by omega) (by omega) fun H6 v p f6 d6 pv po => ?_
              walk_at "go"
              intro r hr
              exact q _ _ (.loop c (c + g) p) ((((((f1.trans (.new hl1)).trans f3).trans f4).trans f5).trans f6).trans (.new hr)) (d6.same (same_new hr)) (.loop upd_same (PlA_keep (keepT_new hr) _ _ pv)) (by unfold okP; exact ⟨c0, by omega, by omega, po⟩)
end
end K04
namespace K04
open PySem PySem.Spec PyProof.Rows L2 Wd
section
variable {P : Program} {w : World} {K : PySem.W.Frag} {mg : Str → Option Value} {base : Heap}
theorem ok_plan (T : Txt K mg) {f : Addr} {fd : FuncData} (D : C8.Def K mg "_law_plan" s_law_plan f fd) (b : Binds K fd ["_law_state", "_law_deep", "_law_loops"] []) (g_law_drawn : C8.Cal P w K mg base 1 "_law_drawn" (sp_drawn K) []) : ∀ n : Nat, C8.Cal P w K mg base (n + 1) "_law_plan" (sp_plan K n) []
  | 0 => ⟨f, fd, ["_law_state", "_law_deep", "_law_loops"], [], ⟨fun _ _ _ _ h => h.elim, fun _ _ _ _ _ _ _ _ _ _ _ _ _ h => h.elim⟩, D.mgf, D.kp, b, .nil⟩
  | n + 1 => plan_step T D b g_law_drawn (ok_plan T D b g_law_drawn n)

theorem cnts_sum : ∀ ps : List Pl, (ps.map fun p => (cnt p : Int)).sum = (cnts ps : Int)
  | [] => by unfold cnts; rfl
  | p :: ps => by
    have ih := cnts_sum ps
    rw [List.map_cons, List.sum_cons, ih]
    simp only [Wd.cnts]
    omega
theorem take_snoc {α : Type} {l : List α} {i : Nat} {x : α} (h : l[i]? = some x) : l.take (i + 1) = l.take i ++ [x] := by
  rw [List.take_succ, h]; rfl
abbrev s_law_count : Stmt := top 32
theorem sc_law_count : FnScope ["_law_plan_here", "_law_part"] ["_law_plan_here"] (C8.fnScope s_law_count) := C8.fnScope_by (by decide +kernel)
def sp_count (K : PySem.W.Frag) : Nat → Sp
  | 0 => fun _ _ _ _ => False
  | d + 1 => fun vs H Q _ => ∃ (v : V) (p : Pl) (l : Nat), vs = [v] ∧ PlA H v p ∧ okP d l p ∧ ∀ H', Same H H' → Q (.int (cnt p)) H'
theorem use_count {d : Nat} {H : Hp} {v : V} {p : Pl} {l : Nat} {Q : VK} {E : XK} (hp : PlA H v p) (ok : okP d l p) (k : ∀ H', Same H H' → Q (.int (cnt p)) H') : sp_count K (d + 1) ([v] ++ []) H Q E := ⟨v, p, l, rfl, hp, ok, k⟩
theorem count_step (T : Txt K mg) {d : Nat} {f : Addr} {fd : FuncData} (D : C8.Def K mg "_law_count" s_law_count f fd) (b : Binds K fd ["_law_plan_here"] [])
    (g_law_count : C8.Cal P w K mg base d "_law_count" (sp_count K d) []) : C8.Cal P w K mg base (d + 1) "_law_count" (sp_count K (d + 1)) [] := by
  refine C8.cal0 D b .nil sc_law_count (fun vs H Q E h => ?_) fun cdv A outer s H vs Q E hr h => ?_
  · obtain ⟨v, p, l, rfl, _⟩ := h; rfl
  · obtain ⟨v, p, l, rfl, hp, ok, q⟩ := h
    have nd := sc_law_count.nd
    have hr : Room d _ := hr
    refine ⟨_, (pss_cons (ps_if (pt_cmpR (r := rIn K false) op_in_seq (pe_ix (r := rIxT K) ix_tup (pv 0) pe_int (fun _ _ => rfl)) (pe_tup (pa_cons pe_str (pa_cons pe_str pa_nil))) (by with_unfolding_all rfl)) (pss_one (ps_ret (pe_op op_add pe_int (pe_callB (r := rSum K) (cr_sum rfl) (by rfl) T.n_sum (by decide +kernel) (pa_cons (pe_lc (own := [("_law_part", 1)]) (g := gName 1) (tt := tYes) rfl nd (pi_tup (pe_ix (r := rIxT K) ix_tup (pv 0) pe_int (fun _ _ => rfl))) (blkOk_by (N := ["_law_plan_here", "_law_part"]) (sc := C8.fnScope s_law_count) (by decide +kernel)) (fun _ _ _ _ _ => pg_name (i := 1) nd rfl (Or.inl rfl)) (fun _ _ _ _ _ => pts_nil) (fun _ _ _ _ _ => (C8.pe_c g_law_count hr (by first | decide | exact Nat.le_refl _ | omega) (by rfl) (pa_cons (pv 1) pa_nil)))) pa_nil))))) pss_nil)
      (pss_one (ps_ret (pe_op op_add pe_int (pe_ifExp (pt_cmpR op_eq (pe_ix (r := rIxT K) ix_tup (pv 0) pe_int (fun _ _ => rfl)) pe_str (nomark _)) (C8.pe_c g_law_count hr (by first | decide | exact Nat.le_refl _ | omega) (by rfl) (pa_cons (pe_ix (r := rIxT K) ix_tup (pv 0) pe_int (fun _ _ => rfl)) pa_nil)) pe_int))))), ?_⟩
    -- the parts of a row or an either, counted
    cases hp with
    | pat ha =>
      walk_at "go"
      refine g_ixT (SqT.of ha) rfl ?_
      walk_at "go"
      intro t ht
      have s1 := same_new (o := .tup [.str "row", .str "either"]) ht
      refine g_inT (SqT.of upd_same) rfl rfl ?_
      walk_at "go"
      refine g_ixT (SqT.of (s1 _ _ ha)) rfl ?_
      walk_at "go"
      exact q _ s1
    | work ha =>
      walk_at "go"
      refine g_ixT (SqT.of ha) rfl ?_
      walk_at "go"
      intro t ht
      have s1 := same_new (o := .tup [.str "row", .str "either"]) ht
      refine g_inT (SqT.of upd_same) rfl rfl ?_
      walk_at "go"
      refine g_ixT (SqT.of (s1 _ _ ha)) rfl ?_
      walk_at "go"
      exact q _ s1
    | @loop a x y u p ha hu =>
      match d, ok with
      | 0, ok => unfold okP at ok; exact ok.elim
      | d + 1, ok =>
      match l, ok with
      | 0, ok => unfold okP at ok; exact ok.elim
      | l + 1, ok =>
      unfold okP at ok
      walk_at "go"
      refine g_ixT (SqT.of ha) rfl ?_
      walk_at "go"
      intro t ht
      have s1 := same_new (o := .tup [.str "row", .str "either"]) ht
      refine g_inT (SqT.of upd_same) rfl rfl ?_
      walk_at "go"
      refine g_ixT (SqT.of (s1 _ _ ha)) rfl ?_
      walk_at "go"
      refine g_ixT (SqT.of (s1 _ _ ha)) rfl ?_
      walk_at "go"
      refine use_count (PlA_keep (keepT_same s1) _ _ hu) ok.2.2.2 fun H2 s2 => ?_
      walk_at "go"
      have e : (cnt (.loop x y p) : Int) = 1 + cnt p := by simp only [Wd.cnt]; omega
      rw [e] at q
      exact q _ (s1.trans s2)
    | @row a c vs ps ha hc hps =>
      match d, ok with
      | 0, ok => unfold okP at ok; exact ok.elim
      | d + 1, ok =>
      unfold okP at ok
      walk_at "go"
      refine g_ixT (SqT.of ha) rfl ?_
      walk_at "go"
      intro t ht
      have s1 := same_new (o := .tup [.str "row", .str "either"]) ht
      refine g_inT (SqT.of upd_same) rfl rfl ?_
      walk_at "go"
      refine g_ixT (SqT.of (s1 _ _ ha)) rfl ?_
      have ln := hps.len
      refine w_lcTup (xs := vs) (SqT.of (s1 _ _ hc)) (fun D i H' => Same (upd H t (.tup [.str "row", .str "either"])) H' ∧ H' D = some (.lst (((ps.take i).map fun p => (cnt p : Int)).map V.int))) ?_ ?_ ?_ ?_
      · intro D hD
        exact ⟨same_new hD, upd_same⟩
      · rintro D i H' hD _ ⟨s2, _⟩
        exact SqT.of (s2 _ _ (s1 _ _ hc))
      · rintro D i v H' hD hv ⟨s2, eD⟩
        obtain ⟨p, hp, pv⟩ := hps.at hv
        walk_at "go"
        refine ⟨rfl, ?_⟩
        walk_at "go"
        refine use_count (PlA_keep (keepT_same (s1.trans s2)) _ _ pv) (okPs_at ok.2.2 hp) fun H3 s3 => ?_
        walk_at "go"
        have hi : i < ps.length := (List.getElem?_eq_some_iff.mp hp).1
        refine ⟨_, s3 _ _ eD, small_lt (by rw [List.length_map, List.length_map, List.length_take]; omega), Same.mut (s2.trans s3) hD, ?_⟩
        rw [upd_same, take_snoc hp, List.map_append, List.map_append]; rfl
      · rintro D H' hD ⟨s2, eD⟩
        rw [ln, List.take_length] at eD
        walk_at "go"
        refine g_sum (SqL.of eD) ?_
        walk_at "go"
        rw [cnts_sum]
        have e : (cnt (.row ps) : Int) = 1 + cnts ps := by simp only [Wd.cnt]; omega
        rw [e] at q
        exact q _ (s1.trans s2)
    | @either a c vs ps ha hc hps =>
      match d, ok with
      | 0, ok => unfold okP at ok; exact ok.elim
      | d + 1, ok =>
      unfold okP at ok
      walk_at "go"
      refine g_ixT (SqT.of ha) rfl ?_
      walk_at "go"
      intro t ht
      have s1 := same_new (o := .tup [.str "row", .str "either"]) ht
      refine g_inT (SqT.of upd_same) rfl rfl ?_
      walk_at "go"
      refine g_ixT (SqT.of (s1 _ _ ha)) rfl ?_
      have ln := hps.len
      refine w_lcTup (xs := vs) (SqT.of (s1 _ _ hc)) (fun D i H' => Same (upd H t (.tup [.str "row", .str "either"])) H' ∧ H' D = some (.lst (((ps.take i).map fun p => (cnt p : Int)).map V.int))) ?_ ?_ ?_ ?_
      · intro D hD
        exact ⟨same_new hD, upd_same⟩
      · rintro D i H' hD _ ⟨s2, _⟩
        exact SqT.of (s2 _ _ (s1 _ _ hc))
      · rintro D i v H' hD hv ⟨s2, eD⟩
        obtain ⟨p, hp, pv⟩ := hps.at hv
        walk_at "go"
        refine ⟨rfl, ?_⟩
        walk_at "go"
        refine use_count (PlA_keep (keepT_same (s1.trans s2)) _ _ pv) (okPs_at ok.2.2 hp) fun H3 s3 => ?_
        walk_at "go"
        have hi : i < ps.length := (List.getElem?_eq_some_iff.mp hp).1
        refine ⟨_, s3 _ _ eD, small_lt (by rw [List.length_map, List.length_map, List.length_take]; omega), Same.mut (s2.trans s3) hD, ?_⟩
        rw [upd_same, take_snoc hp, List.map_append, List.map_append]; rfl
      · rintro D H' hD ⟨s2, eD⟩
        rw [ln, List.take_length] at eD
        walk_at "go"
        refine g_sum (SqL.of eD) ?_
        walk_at "go"
        rw [cnts_sum]
        have e : (cnt (.either ps) : Int) = 1 + cnts ps := by simp only [Wd.cnt]; omega
        rw [e] at q
        exact q _ (s1.trans s2)
end
end K04
namespace K04
open PySem PySem.Spec PyProof.Rows L2 Wd
section
variable {P : Program} {w : World} {K : PySem.W.Frag} {mg : Str → Option Value} {base : Heap}
theorem ok_count (T : Txt K mg) {f : Addr} {fd : FuncData} (D : C8.Def K mg "_law_count" s_law_count f fd) (b : Binds K fd ["_law_plan_here"] []) : ∀ n : Nat, C8.Cal P w K mg base n "_law_count" (sp_count K n) []
  | 0 => ⟨f, fd, ["_law_plan_here"], [], ⟨fun _ _ _ _ h => h.elim, fun _ _ _ _ _ _ _ _ _ _ _ _ _ h => h.elim⟩, D.mgf, D.kp, b, .nil⟩
  | n + 1 => count_step T D b (ok_count T D b n)

abbrev s_law_good : Stmt := top 33
theorem sc_law_good : FnScope ["_law_state", "_law_deep", "_law_loops", "_law_plan_here"] ["_law_state", "_law_deep", "_law_loops"] (C8.fnScope s_law_good) := C8.fnScope_by (by decide +kernel)
/-- d: one less than how deep it may be, from 1 on -/
def sp_good (K : PySem.W.Frag) (d : Nat) : Sp := fun vs H Q _ => ∃ (B : Hp) (S : Addr) (deep : Int) (l : Nat), vs = [.ref S, .int deep, .int l] ∧ Dst K B H S ∧ deep ≤ d + 2 ∧ ∀ H' v p, Frm S H H' → Dst K B H' S → PlA H' v p → okP (d + 1) l p → cnt p ≤ 30 → Q v H'
theorem ok_good (T : Txt K mg) {d : Nat} {f : Addr} {fd : FuncData} (D : C8.Def K mg "_law_good" s_law_good f fd) (b : Binds K fd ["_law_state", "_law_deep", "_law_loops"] []) (g_law_plan : C8.Cal P w K mg base (d + 3) "_law_plan" (sp_plan K (d + 2)) [])
    (g_law_count : C8.Cal P w K mg base (d + 2) "_law_count" (sp_count K (d + 2)) []) : C8.Cal P w K mg base (d + 4) "_law_good" (sp_good K d) [] := by
  refine C8.cal0 D b .nil sc_law_good (fun vs H Q E h => ?_) fun cdv A outer s H vs Q E hr h => ?_
  · obtain ⟨B, S, deep, l, rfl, _⟩ := h; rfl
  · obtain ⟨B, S, deep, l, rfl, hd, hdeep, q⟩ := h
    have nd := sc_law_good.nd
    have hr : Room (d + 3) _ := hr
    refine ⟨_, (pss_cons (ps_set (i := 3) nd rfl (Or.inl rfl) (C8.pe_c g_law_plan hr (by first | decide | exact Nat.le_refl _ | omega) (by rfl) (pa_cons (pv 0) (pa_cons (pv 1) (pa_cons (pv 2) pa_nil)))))
      (pss_one (ps_ret (pe_ifExp (pt_cmpR op_le (C8.pe_c g_law_count hr (by first | decide | exact Nat.le_refl _ | omega) (by rfl) (pa_cons (pv 3) pa_nil)) pe_int (nomark _)) (pv 3) (pe_tup (pa_cons pe_str (pa_cons (pe_tup (pa_cons (pe_tup (pa_cons pe_str (pa_cons pe_int (pa_cons pe_int pa_nil)))) (pa_cons (pe_tup (pa_cons pe_str pa_nil)) pa_nil))) pa_nil))))))), ?_⟩
    walk_at "go"
    refine use_plan hd rfl (by omega) (by omega) fun H1 v p f1 d1 pv po => ?_
    walk_at "go"
    refine use_count (d := d + 1) pv po fun H2 s2 => ?_
    have d2 := d1.same s2
    walk_at "go"
    refine g_ite (fun hc => ?_) (fun hc => ?_)
    · walk_at "go"
      exact q _ _ p (f1.trans (.of s2)) d2 (PlA_keep (keepT_same s2) _ _ pv) po (by omega)
    · walk_at "go"
      intro a ha
      have d3 := d2.same (same_new (o := .tup [.str "work", .int 1, .int 2]) ha)
      have L3 := Live.new (L := []) (o := .tup [.str "work", .int 1, .int 2]) Live.nil ha d2.has
      walk_at "go"
      intro c hc2
      have d4 := d3.same (same_new (o := .tup [.str "pat"]) hc2)
      have L4 := L3.new (o := .tup [.str "pat"]) hc2 d3.has
      walk_at "go"
      intro e he
      have d5 := d4.same (same_new (o := .tup [.ref a, .ref c]) he)
      have L5 := L4.new (o := .tup [.ref a, .ref c]) he d4.has
      walk_at "go"
      intro g hg
      have d6 := d5.same (same_new (o := .tup [.str "row", .ref e]) hg)
      have L6 := L5.new (o := .tup [.str "row", .ref e]) hg d5.has
      exact q _ _ (.row [.work 1 2, .pat]) (((((f1.trans (.of s2)).trans (.new ha)).trans (.new hc2)).trans (.new he)).trans (.new hg)) d6 (.row (L6.get 0 rfl) (L6.get 1 rfl) (.cons (.work (L6.get 3 rfl)) (.cons (.pat (L6.get 2 rfl)) .nil)))
        (by simp only [okP, okPs]; simp) (by decide)

theorem cnts_app : ∀ ps qs : List Pl, cnts (ps ++ qs) = cnts ps + cnts qs
  | [], qs => by simp only [List.nil_append, Wd.cnts]; omega
  | p :: ps, qs => by have ih := cnts_app ps qs; simp only [List.cons_append, Wd.cnts, ih]; omega
end
end K04
namespace K04
open PySem PySem.Spec PyProof.Rows L2 Wd
/-! ### a plan done: its pats, the delays left, the moment behind it -/
abbrev Res := Option (List Int × List Int × Int)
def seqR (r : Res) (k : List Int → Int → Res) : Res := match r with
  | none => none
  | some (a, ds, t) => match k ds t with
    | none => none
    | some (b, ds', t') => some (a ++ b, ds', t')
def iter (f : List Int → Int → Res) : Nat → List Int → Int → Res
  | 0, ds, t => some ([], ds, t)
  | n + 1, ds, t => seqR (f ds t) (iter f n)
mutual
def rn : Pl → List Int → Int → Res
  | .pat, ds, t => some ([t], ds, t)
  | .work _ _, [], _ => none
  | .work a b, d :: ds, t => if a ≤ d ∧ d ≤ b then some ([], ds, t + d) else none
  | .row ps, ds, t => rns ps ds t
  | .either _, [], _ => none
  | .either ps, d :: ds, t => if 0 ≤ d then rnAt ps d.toNat ds t else none
  | .loop _ _ _, [], _ => none
  | .loop a b p, d :: ds, t => if a ≤ d ∧ d ≤ b then iter (rn p) d.toNat ds t else none
def rns : List Pl → List Int → Int → Res
  | [], ds, t => some ([], ds, t)
  | p :: ps, ds, t => seqR (rn p ds t) (rns ps)
def rnAt : List Pl → Nat → List Int → Int → Res
  | [], _, _, _ => none
  | p :: _, 0, ds, t => rn p ds t
  | _ :: ps, n + 1, ds, t => rnAt ps n ds t
end
theorem seqR_some {a ds : List Int} {t : Int} {k : List Int → Int → Res} {b ds' : List Int} {t' : Int} (h : k ds t = some (b, ds', t')) : seqR (some (a, ds, t)) k = some (a ++ b, ds', t') := by
  unfold seqR; simp only [h]
theorem seqR_inv {r : Res} {k : List Int → Int → Res} {x ds' : List Int} {t' : Int} (h : seqR r k = some (x, ds', t')) : ∃ a ds t b, r = some (a, ds, t) ∧ k ds t = some (b, ds', t') ∧ x = a ++ b := by
  unfold seqR at h
  match r, h with
  | some (a, ds, t), h =>
    simp only at h
    cases e : k ds t with
    | none => rw [e] at h; cases h
    | some z =>
      obtain ⟨b, d2, t2⟩ := z
      rw [e] at h
      cases h
      exact ⟨a, ds, t, b, rfl, e, rfl⟩
theorem iter_rep (p : Pl) : ∀ (n : Nat) (ds : List Int) (t : Int), iter (rn p) n ds t = rns (List.replicate n p) ds t
  | 0, ds, t => by simp only [iter, List.replicate_zero, rns]
  | n + 1, ds, t => by
    have e : iter (rn p) n = rns (List.replicate n p) := funext fun a => funext fun b => iter_rep p n a b
    simp only [iter, List.replicate_succ, rns, e]
theorem rnAt_at : ∀ {ps : List Pl} {n : Nat} {p : Pl}, ps[n]? = some p → ∀ ds t, rnAt ps n ds t = rn p ds t
  | _ :: _, 0, _, e, ds, t => by cases e; simp only [rnAt]
  | _ :: ps, n + 1, _, e, ds, t => by simp only [rnAt]; exact rnAt_at (ps := ps) e ds t
theorem rnAt_some : ∀ {ps : List Pl} {n : Nat} {ds : List Int} {t : Int} {r : List Int × List Int × Int}, rnAt ps n ds t = some r → ∃ p, ps[n]? = some p ∧ rn p ds t = some r
  | [], _, _, _, _, h => by simp only [rnAt] at h; cases h
  | p :: _, 0, ds, t, r, h => by simp only [rnAt] at h; exact ⟨p, rfl, h⟩
  | _ :: ps, n + 1, ds, t, r, h => by simp only [rnAt] at h; exact rnAt_some (ps := ps) h
/-- delays that are used up -/
def Val (f : List Int → Int → Res) (ds : List Int) : Prop := ∀ rest t, ∃ np t', f (ds ++ rest) t = some (np, rest, t')
theorem val_nil : Val (rns []) [] := fun rest t => ⟨[], t, by simp only [List.nil_append, rns]⟩
theorem val_snoc : ∀ {ps : List Pl} {ds : List Int} {p : Pl} {d : List Int}, Val (rns ps) ds → Val (rn p) d → Val (rns (ps ++ [p])) (ds ++ d)
  | [], ds, p, d, h, hp => fun rest t => by
    obtain ⟨np, t1, e⟩ := h (d ++ rest) t
    simp only [rns] at e
    obtain ⟨rfl, e2, rfl⟩ : np = [] ∧ ds ++ (d ++ rest) = d ++ rest ∧ t = t1 := by
      have := Option.some.inj e
      simp only [Prod.mk.injEq] at this
      exact ⟨this.1.symm, this.2.1, this.2.2⟩
    obtain ⟨np2, t2, e3⟩ := hp rest t
    refine ⟨np2 ++ [], t2, ?_⟩
    rw [List.append_assoc, e2]
    simp only [List.nil_append, rns]
    rw [e3]
    exact seqR_some (by simp only [rns])
  | q :: ps, ds, p, d, h, hp => fun rest t => by
    obtain ⟨np, t1, e⟩ := h (d ++ rest) t
    simp only [rns] at e
    obtain ⟨a, ds1, s1, b, e1, e2, e3⟩ := seqR_inv e
    -- the rest of the parts, from what the first leaves
    obtain ⟨np2, t2, e4⟩ := hp rest t1
    have app : ∀ (ps : List Pl) (x : List Int) (s : Int) (b y : List Int) (s' : Int), rns ps x s = some (b, y, s') → ∀ (c z : List Int) (s'' : Int), rn p y s' = some (c, z, s'') → rns (ps ++ [p]) x s = some (b ++ c, z, s'') := by
      intro ps
      induction ps with
      | nil =>
        intro x s b y s' h1 c z s'' h2
        simp only [rns] at h1
        cases h1
        simp only [List.nil_append, rns, h2]
        have := seqR_some (a := c) (k := rns []) (ds := z) (t := s'') (b := []) (ds' := z) (t' := s'') (by simp only [rns])
        rw [List.append_nil] at this
        exact this
      | cons r ps ih =>
        intro x s b y s' h1 c z s'' h2
        simp only [rns] at h1
        obtain ⟨a1, x1, u1, b1, g1, g2, rfl⟩ := seqR_inv h1
        simp only [List.cons_append, rns, g1]
        rw [List.append_assoc]
        exact seqR_some (ih x1 u1 b1 y s' g2 c z s'' h2)
    refine ⟨a ++ (b ++ np2), t2, ?_⟩
    rw [List.append_assoc]
    simp only [List.cons_append, rns, e1]
    exact seqR_some (app ps ds1 s1 b (d ++ rest) t1 e2 np2 rest t2 e4)
mutual
/-- how many delays at the most -/
def mx : Pl → Nat
  | .pat => 0
  | .work _ _ => 1
  | .row ps => mxs ps
  | .either ps => 1 + mxs ps
  | .loop _ _ p => 1 + 9 * mx p
def mxs : List Pl → Nat
  | [] => 0
  | p :: ps => mx p + mxs ps
end
theorem ten_pos (l : Nat) : 1 ≤ 10 ^ l := Nat.pow_pos (by decide)
mutual
theorem mx_le : ∀ (p : Pl) (d l : Nat), okP d l p → mx p ≤ Wd.cnt p * 10 ^ l
  | .pat, d, l, h => Nat.zero_le _
  | .work _ _, d, l, h => by simp only [mx, Wd.cnt, Nat.one_mul]; exact ten_pos l
  | .row ps, 0, l, h => by unfold okP at h; exact h.elim
  | .row ps, d + 1, l, h => by
    unfold okP at h
    have := mxs_le ps d l h.2.2
    simp only [mx, Wd.cnt, Nat.add_mul]
    omega
  | .either ps, 0, l, h => by unfold okP at h; exact h.elim
  | .either ps, d + 1, l, h => by
    unfold okP at h
    have := mxs_le ps d l h.2.2
    have h1 : 1 ≤ 10 ^ l := ten_pos l
    simp only [mx, Wd.cnt, Nat.add_mul]
    omega
  | .loop a b p, 0, l, h => by unfold okP at h; exact h.elim
  | .loop a b p, d + 1, 0, h => by unfold okP at h; exact h.elim
  | .loop a b p, d + 1, l + 1, h => by
    unfold okP at h
    have := mx_le p d l h.2.2.2
    have h1 : 1 ≤ 10 ^ l := ten_pos l
    simp only [mx, Wd.cnt, Nat.add_mul, Nat.pow_succ]
    have e : Wd.cnt p * (10 ^ l * 10) = 10 * (Wd.cnt p * 10 ^ l) := by rw [← Nat.mul_assoc, Nat.mul_comm]
    omega
theorem mxs_le : ∀ (ps : List Pl) (d l : Nat), okPs d l ps → mxs ps ≤ Wd.cnts ps * 10 ^ l
  | [], d, l, h => Nat.zero_le _
  | p :: ps, d, l, h => by
    unfold okPs at h
    have h1 := mx_le p d l h.1
    have h2 := mxs_le ps d l h.2
    simp only [mxs, Wd.cnts, Nat.add_mul]
    omega
end
theorem mxs_take {ps : List Pl} {i : Nat} {p : Pl} (h : ps[i]? = some p) : mxs (ps.take i) + mx p ≤ mxs ps ∧ mxs (ps.take (i + 1)) = mxs (ps.take i) + mx p := by
  induction ps generalizing i with
  | nil => cases h
  | cons q ps ih =>
    match i, h with
    | 0, h => cases h; simp only [List.take_zero, List.take_succ_cons, mxs]; omega
    | i + 1, h =>
      have := ih (i := i) h
      simp only [List.take_succ_cons, mxs]
      omega
theorem mx_at {ps : List Pl} {i : Nat} {p : Pl} (h : ps[i]? = some p) : mx p ≤ mxs ps := by have := (mxs_take h).1; omega
end K04
namespace K04
open PySem PySem.Spec PyProof.Rows L2 Wd
section
variable {P : Program} {w : World} {K : PySem.W.Frag} {mg : Str → Option Value} {base : Heap}
def Frm2 (S F : Addr) (H H' : Hp) : Prop := ∀ b o, b ≠ S → b ≠ F → H b = some o → H' b = some o
theorem Frm2.refl (S F : Addr) (H : Hp) : Frm2 S F H H := fun _ _ _ _ h => h
theorem Frm2.trans {S F : Addr} {H H1 H2 : Hp} (a : Frm2 S F H H1) (b : Frm2 S F H1 H2) : Frm2 S F H H2 := fun c o n1 n2 h => b c o n1 n2 (a c o n1 n2 h)
theorem Frm2.of1 {S F : Addr} {H H' : Hp} (f : Frm S H H') : Frm2 S F H H' := fun b o n _ h => f b o n h
theorem Frm2.set {S F : Addr} {H : Hp} {o : HO} : Frm2 S F H (upd H F o) := fun b u _ n h => by rw [upd_ne n]; exact h
theorem keepT_frm2 {B H H' : Hp} {S F : Addr} {xs : List V} (d : Dst K B H S) (hF : H F = some (.lst xs)) (f : Frm2 S F H H') : KeepT H H' := fun b ys h => by
  obtain ⟨sc, ns, c, m, r, hS, _⟩ := d
  exact f b _ (ne_of h hS (fun z => nomatch z)) (ne_of h hF (fun z => nomatch z)) h
theorem val_pat : Val (rn .pat) [] := fun rest t => ⟨[t], t, by simp only [List.nil_append, rn]⟩
theorem val_work {a b d : Int} (h : a ≤ d ∧ d ≤ b) : Val (rn (.work a b)) [d] := fun rest t => ⟨[], t + d, by simp only [List.cons_append, List.nil_append, rn]; rw [if_pos h]⟩
theorem val_row {ps : List Pl} {ds : List Int} (h : Val (rns ps) ds) : Val (rn (.row ps)) ds := fun rest t => by
  obtain ⟨np, t', e⟩ := h rest t
  exact ⟨np, t', by simp only [rn]; exact e⟩
theorem val_either {ps : List Pl} {p : Pl} {i : Int} {ds : List Int} (h0 : 0 ≤ i) (hp : ps[i.toNat]? = some p) (h : Val (rn p) ds) : Val (rn (.either ps)) (i :: ds) := fun rest t => by
  obtain ⟨np, t', e⟩ := h rest t
  exact ⟨np, t', by simp only [List.cons_append, rn]; rw [if_pos h0, rnAt_at hp]; exact e⟩
theorem val_loop {a b n : Int} {p : Pl} {ds : List Int} (h0 : a ≤ n ∧ n ≤ b) (h : Val (rns (List.replicate n.toNat p)) ds) : Val (rn (.loop a b p)) (n :: ds) := fun rest t => by
  obtain ⟨np, t', e⟩ := h rest t
  exact ⟨np, t', by simp only [List.cons_append, rn]; rw [if_pos h0, iter_rep]; exact e⟩
theorem last_of (old : List Int) (n : Int) : ((old ++ [n]).map V.int)[((old ++ [n]).map V.int).length - 1]? = some (V.int n) := by
  rw [List.length_map, List.getElem?_map, List.length_append, List.length_singleton, Nat.add_sub_cancel, List.getElem?_append_right (Nat.le_refl _), Nat.sub_self]; rfl
theorem atI_back {xs : List V} {v : V} (h : xs[xs.length - 1]? = some v) : atI xs (-1) = some v := by
  have hl := (List.getElem?_eq_some_iff.mp h).1
  unfold atI ixN
  rw [if_neg (by decide), if_pos (by omega)]
  have e : (-1 + (xs.length : Int)).toNat = xs.length - 1 := by omega
  rw [e]
  exact h

abbrev s_law_delays : Stmt := top 34
theorem sc_law_delays : FnScope ["_law_state", "_law_plan_here", "_law_found", "_law_part", "_law_turn"] ["_law_state", "_law_plan_here", "_law_found"] (C8.fnScope s_law_delays) := C8.fnScope_by (by decide +kernel)
def sp_delays (K : PySem.W.Frag) : Nat → Sp
  | 0 => fun _ _ _ _ => False
  | d + 1 => fun vs H Q _ => ∃ (B : Hp) (S : Addr) (v : V) (p : Pl) (l : Nat) (F : Addr) (old : List Int), vs = [.ref S, v, .ref F] ∧ Dst K B H S ∧ PlA H v p ∧ okP d l p ∧ H F = some (.lst (old.map V.int)) ∧ F ≠ S ∧ B F = none ∧ old.length + mx p ≤ 50000 ∧
    ∀ H' ds, Frm2 S F H H' → Dst K B H' S → H' F = some (.lst ((old ++ ds).map V.int)) → Val (rn p) ds → ds.length ≤ mx p → Q .non H'
theorem use_delays {d : Nat} {B H : Hp} {S F : Addr} {v : V} {p : Pl} {l : Nat} {old : List Int} {Q : VK} {E : XK} (hd : Dst K B H S) (hp : PlA H v p) (ok : okP d l p) (hF : H F = some (.lst (old.map V.int))) (nF : F ≠ S) (bF : B F = none) (sz : old.length + mx p ≤ 50000)
    (k : ∀ H' ds, Frm2 S F H H' → Dst K B H' S → H' F = some (.lst ((old ++ ds).map V.int)) → Val (rn p) ds → ds.length ≤ mx p → Q .non H') : sp_delays K (d + 1) ([.ref S, v, .ref F] ++ []) H Q E := ⟨B, S, v, p, l, F, old, rfl, hd, hp, ok, hF, nF, bF, sz, k⟩
theorem delays_step (T : Txt K mg) {d : Nat} {f : Addr} {fd : FuncData} (D : C8.Def K mg "_law_delays" s_law_delays f fd) (b : Binds K fd ["_law_state", "_law_plan_here", "_law_found"] []) (g_law_drawn : C8.Cal P w K mg base 1 "_law_drawn" (sp_drawn K) [])
    (g_law_delays : C8.Cal P w K mg base (d + 1) "_law_delays" (sp_delays K d) []) : C8.Cal P w K mg base (d + 2) "_law_delays" (sp_delays K (d + 1)) [] := by
  refine C8.cal0 D b .nil sc_law_delays (fun vs H Q E h => ?_) fun cdv A outer s H vs Q E hr h => ?_
  · obtain ⟨B, S, v, p, l, F, old, rfl, _⟩ := h; rfl
  · obtain ⟨B, S, v, p, l, F, old, rfl, hd, hp, ok, hF, nF, bF, sz, q⟩ := h
    have nd := sc_law_delays.nd
    have hr : Room (d + 1) _ := hr
    refine ⟨_, (pss_one (ps_if (pt_cmpR op_eq (pe_ix (r := rIxT K) ix_tup (pv 1) pe_int (fun _ _ => rfl)) pe_str (nomark _)) (pss_one (ps_expr (pe_bmK (K := K) rfl PySem.F.plainAttrs_list PySem.F.slot_list_append PySem.F.type_list_append mt_append (pv 2) (pa_cons (pe_op op_add (pe_ix (r := rIxT K) ix_tup (pv 1) pe_int (fun _ _ => rfl)) (C8.pe_c g_law_drawn hr (by first | decide | exact Nat.le_refl _ | omega) (by rfl) (pa_cons (pv 0) (pa_cons (pe_op op_add (pe_op op_sub (pe_ix (r := rIxT K) ix_tup (pv 1) pe_int (fun _ _ => rfl)) (pe_ix (r := rIxT K) ix_tup (pv 1) pe_int (fun _ _ => rfl))) pe_int) pa_nil)))) pa_nil)))) (pss_one (ps_if (pt_cmpR op_eq (pe_ix (r := rIxT K) ix_tup (pv 1) pe_int (fun _ _ => rfl)) pe_str (nomark _)) (pss_one (ps_for PassesOwn.never rfl (pi_tup (pe_ix (r := rIxT K) ix_tup (pv 1) pe_int (fun _ _ => rfl))) (pg_name (i := 3) nd rfl (Or.inl rfl)) (pss_one (ps_expr (C8.pe_c g_law_delays hr (by first | decide | exact Nat.le_refl _ | omega) (by rfl) (pa_cons (pv 0) (pa_cons (pv 3) (pa_cons (pv 2) pa_nil)))))))) (pss_one (ps_if (pt_cmpR op_eq (pe_ix (r := rIxT K) ix_tup (pv 1) pe_int (fun _ _ => rfl)) pe_str (nomark _)) (pss_cons (ps_expr (pe_bmK (K := K) rfl PySem.F.plainAttrs_list PySem.F.slot_list_append PySem.F.type_list_append mt_append (pv 2) (pa_cons (C8.pe_c g_law_drawn hr (by first | decide | exact Nat.le_refl _ | omega) (by rfl) (pa_cons (pv 0) (pa_cons (pe_callB (r := Wd.rLen K) call_len1 (by rfl) T.n_len PySem.boot_len (pa_cons (pe_ix (r := rIxT K) ix_tup (pv 1) pe_int (fun _ _ => rfl)) pa_nil)) pa_nil))) pa_nil)))
      (pss_one (ps_expr (C8.pe_c g_law_delays hr (by first | decide | exact Nat.le_refl _ | omega) (by rfl) (pa_cons (pv 0) (pa_cons (pe_ix (r := rIxT K) ix_tup (pe_ix (r := rIxT K) ix_tup (pv 1) pe_int (fun _ _ => rfl)) (pe_ix (r := rIxL K) ix_list (pv 2) (pe_un un_neg pe_int) (fun _ _ => rfl)) (fun _ _ => rfl)) (pa_cons (pv 2) pa_nil))))))) (pss_one (ps_if (pt_cmpR op_eq (pe_ix (r := rIxT K) ix_tup (pv 1) pe_int (fun _ _ => rfl)) pe_str (nomark _)) (pss_cons (ps_expr (pe_bmK (K := K) rfl PySem.F.plainAttrs_list PySem.F.slot_list_append PySem.F.type_list_append mt_append (pv 2) (pa_cons (pe_op op_add (pe_ix (r := rIxT K) ix_tup (pv 1) pe_int (fun _ _ => rfl)) (C8.pe_c g_law_drawn hr (by first | decide | exact Nat.le_refl _ | omega) (by rfl) (pa_cons (pv 0) (pa_cons (pe_op op_add (pe_op op_sub (pe_ix (r := rIxT K) ix_tup (pv 1) pe_int (fun _ _ => rfl)) (pe_ix (r := rIxT K) ix_tup (pv 1) pe_int (fun _ _ => rfl))) pe_int) pa_nil)))) pa_nil)))
      (pss_one (ps_for PassesOwn.never rfl (pi_range1 rfl T.n_range (pa_cons (pe_ix (r := rIxL K) ix_list (pv 2) (pe_un un_neg pe_int) (fun _ _ => rfl)) pa_nil)) (pg_name (i := 4) nd rfl (Or.inl rfl)) (pss_one (ps_expr (C8.pe_c g_law_delays hr (by first | decide | exact Nat.le_refl _ | omega) (by rfl) (pa_cons (pv 0) (pa_cons (pe_ix (r := rIxT K) ix_tup (pv 1) pe_int (fun _ _ => rfl)) (pa_cons (pv 2) pa_nil))))))))) pss_nil)))))))), ?_⟩
    cases hp with
    | pat ha =>
      walk_at "go"
      refine g_ixT (SqT.of ha) rfl ?_
      walk_at "go"
      refine g_ixT (SqT.of ha) rfl ?_
      walk_at "go"
      refine g_ixT (SqT.of ha) rfl ?_
      walk_at "go"
      refine g_ixT (SqT.of ha) rfl ?_
      walk_at "go"
      exact q _ [] (.refl _ _ _) hd (by rw [List.append_nil]; exact hF) val_pat (Nat.zero_le _)
    | @work a x y ha =>
      unfold okP at ok
      walk_at "go"
      refine g_ixT (SqT.of ha) rfl ?_
      walk_at "go"
      refine g_tyL hF ?_
      walk_at "go"
      refine g_ixT (SqT.of ha) rfl ?_
      walk_at "go"
      refine g_ixT (SqT.of ha) rfl ?_
      walk_at "go"
      refine g_ixT (SqT.of ha) rfl ?_
      walk_at "go"
      refine use_drawn (n := y - x + 1) hd (by omega) (by omega) fun H1 c f1 d1 c0 c1 => ?_
      have hF1 := f1 _ _ nF hF
      walk_at "go"
      simp only [mx] at sz
      refine g_append hF1 (by rw [List.length_map]; omega) ?_
      walk_at "go"
      exact q _ [x + c] ((Frm2.of1 f1).trans .set) (d1.mut nF bF) (by rw [upd_same, List.map_append]; rfl) (val_work ⟨by omega, by omega⟩) (by simp only [mx]; exact Nat.le_refl _)
    | @row a c vs ps ha hc hps =>
      match d, ok with
      | 0, ok => unfold okP at ok; exact ok.elim
      | d + 1, ok =>
      unfold okP at ok
      have ln := hps.len
      simp only [mx] at sz
      walk_at "go"
      refine g_ixT (SqT.of ha) rfl ?_
      walk_at "go"
      refine g_ixT (SqT.of ha) rfl ?_
      walk_at "go"
      refine g_ixT (SqT.of ha) rfl ?_
      refine w_tup (xs := vs) (fun i σ H' => ∃ (v3 v4 : Option V) (ds : List Int), σ = [some (.ref S), some (.ref a), some (.ref F), v3, v4] ∧ Frm2 S F H H' ∧ Dst K B H' S ∧ H' F = some (.lst ((old ++ ds).map V.int)) ∧ Val (rns (ps.take i)) ds ∧ ds.length ≤ mxs (ps.take i)) ?_ ?_ ?_ ?_
      · exact ⟨_, _, [], rfl, .refl _ _ _, hd, by rw [List.append_nil]; exact hF, val_nil, Nat.zero_le _⟩
      · rintro i σ H' _ ⟨v3, v4, ds, _, f, _⟩
        exact SqT.of (keepT_frm2 hd hF f _ _ hc)
      · rintro i v σ H' hv ⟨v3, v4, ds, rfl, f, dd, e, va, le⟩
        obtain ⟨p, hp, pv⟩ := hps.at hv
        obtain ⟨b1, b2⟩ := mxs_take hp
        have kt := keepT_frm2 hd hF f
        walk_at "go"
        refine use_delays dd (PlA_keep kt _ _ pv) (okPs_at ok.2.2 hp) e nF bF (by rw [List.length_append]; omega) fun H2 ds2 f2 d2 e2 va2 le2 => ?_
        walk_at "go"
        refine ⟨_, _, ds ++ ds2, rfl, f.trans f2, d2, by rw [← List.append_assoc]; exact e2, ?_, by rw [b2, List.length_append]; omega⟩
        rw [take_snoc hp]
        exact val_snoc va va2
      · rintro σ H' ⟨v3, v4, ds, rfl, f, dd, e, va, le⟩
        rw [ln, List.take_length] at va le
        walk_at "go"
        exact q _ ds f dd e (val_row va) (by simp only [mx]; exact le)
    | @either a c vs ps ha hc hps =>
      match d, ok with
      | 0, ok => unfold okP at ok; exact ok.elim
      | d + 1, ok =>
      unfold okP at ok
      have ln := hps.len
      simp only [mx] at sz
      walk_at "go"
      refine g_ixT (SqT.of ha) rfl ?_
      walk_at "go"
      refine g_ixT (SqT.of ha) rfl ?_
      walk_at "go"
      refine g_ixT (SqT.of ha) rfl ?_
      walk_at "go"
      refine g_tyL hF ?_
      walk_at "go"
      refine g_ixT (SqT.of ha) rfl ?_
      walk_at "go"
      refine g_len (.inr (SqT.of hc)) ?_
      walk_at "go"
      refine use_drawn hd (by omega) (by omega) fun H1 i f1 d1 i0 i1 => ?_
      have hF1 := f1 _ _ nF hF
      have kt := keepT_frm hd f1
      walk_at "go"
      refine g_append hF1 (by rw [List.length_map]; omega) ?_
      have kt2 := kt.trans (keepT_lst (o := .lst (old.map V.int ++ [V.int i])) hF1)
      have hF2 : upd H1 F (.lst (old.map V.int ++ [V.int i])) F = some (.lst ((old ++ [i]).map V.int)) := by rw [upd_same, List.map_append]; rfl
      have d2 := d1.mut (o := .lst (old.map V.int ++ [V.int i])) nF bF
      walk_at "go"
      refine g_ixT (SqT.of (kt2 _ _ ha)) rfl ?_
      walk_at "go"
      refine g_ixL (SqL.of hF2) (atI_back (last_of old i)) ?_
      have hi : i.toNat < vs.length := by omega
      have hvi : vs[i.toNat]? = some vs[i.toNat] := List.getElem?_eq_getElem hi
      obtain ⟨p, hp, pv⟩ := hps.at hvi
      have m1 := mx_at hp
      refine g_ixT (v := vs[i.toNat]) (SqT.of (kt2 _ _ hc)) (at_of (j := i.toNat) (by omega) hvi) ?_
      walk_at "go"
      refine use_delays d2 (PlA_keep kt2 _ _ pv) (okPs_at ok.2.2 hp) hF2 nF bF (by rw [List.length_append, List.length_singleton]; omega) fun H3 ds2 f3 d3 e3 va3 le3 => ?_
      walk_at "go"
      exact q _ (i :: ds2) (((Frm2.of1 f1).trans .set).trans f3) d3 (by rw [List.append_cons]; exact e3) (val_either i0 hp va3) (by simp only [mx, List.length_cons]; omega)
    | @loop a x y u p ha hu =>
      match d, ok with
      | 0, ok => unfold okP at ok; exact ok.elim
      | d + 1, ok =>
      match l, ok with
      | 0, ok => unfold okP at ok; exact ok.elim
      | l + 1, ok =>
      unfold okP at ok
      simp only [mx] at sz
      walk_at "go"
      refine g_ixT (SqT.of ha) rfl ?_
      walk_at "go"
      refine g_ixT (SqT.of ha) rfl ?_
      walk_at "go"
      refine g_ixT (SqT.of ha) rfl ?_
      walk_at "go"
      refine g_ixT (SqT.of ha) rfl ?_
      walk_at "go"
      refine g_tyL hF ?_
      walk_at "go"
      refine g_ixT (SqT.of ha) rfl ?_
      walk_at "go"
      refine g_ixT (SqT.of ha) rfl ?_
      walk_at "go"
      refine g_ixT (SqT.of ha) rfl ?_
      walk_at "go"
      refine use_drawn (n := y - x + 1) hd (by omega) (by omega) fun H1 c f1 d1 c0 c1 => ?_
      have hF1 := f1 _ _ nF hF
      have kt := keepT_frm hd f1
      walk_at "go"
      refine g_append hF1 (by rw [List.length_map]; omega) ?_
      have kt2 := kt.trans (keepT_lst (o := .lst (old.map V.int ++ [V.int (x + c)])) hF1)
      have hF2 : upd H1 F (.lst (old.map V.int ++ [V.int (x + c)])) F = some (.lst ((old ++ [x + c]).map V.int)) := by rw [upd_same, List.map_append]; rfl
      have d2 := d1.mut (o := .lst (old.map V.int ++ [V.int (x + c)])) nF bF
      have f2 : Frm2 S F H (upd H1 F (.lst (old.map V.int ++ [V.int (x + c)]))) := (Frm2.of1 f1).trans .set
      walk_at "go"
      refine g_ixL (SqL.of hF2) (atI_back (last_of old (x + c))) ?_
      walk_at "go"
      refine w_range (by omega) (by omega) (fun i σ H' => ∃ (v3 v4 : Option V) (ds : List Int), σ = [some (.ref S), some (.ref a), some (.ref F), v3, v4] ∧ Frm2 S F H H' ∧ Dst K B H' S ∧ H' F = some (.lst (((old ++ [x + c]) ++ ds).map V.int)) ∧ Val (rns (List.replicate i p)) ds ∧ ds.length ≤ i * mx p) ?_ ?_ ?_
      · exact ⟨_, _, [], rfl, f2, d2, by rw [List.append_nil]; exact hF2, val_nil, by simp⟩
      · rintro i σ H' hi ⟨v3, v4, ds, rfl, f, dd, e, va, le⟩
        have kt3 := keepT_frm2 hd hF f
        have i9 : i ≤ 8 := by omega
        have le9 : i * mx p ≤ 8 * mx p := Nat.mul_le_mul_right _ i9
        walk_at "go"
        refine g_ixT (SqT.of (kt3 _ _ ha)) rfl ?_
        walk_at "go"
        refine use_delays dd (PlA_keep kt3 _ _ hu) ok.2.2.2 e nF bF (by rw [List.length_append, List.length_append, List.length_singleton]; omega) fun H4 ds2 f4 d4 e4 va4 le4 => ?_
        walk_at "go"
        refine ⟨_, _, ds ++ ds2, rfl, f.trans f4, d4, by rw [← List.append_assoc]; exact e4, ?_, by rw [List.length_append, Nat.add_mul]; omega⟩
        rw [List.replicate_succ']
        exact val_snoc va va4
      · rintro σ H' ⟨v3, v4, ds, rfl, f, dd, e, va, le⟩
        have i9 : (x + c).toNat ≤ 9 := by omega
        have le9 : (x + c).toNat * mx p ≤ 9 * mx p := Nat.mul_le_mul_right _ i9
        walk_at "go"
        exact q _ ((x + c) :: ds) f dd (by rw [List.append_cons]; exact e) (val_loop ⟨by omega, by omega⟩ va) (by simp only [mx, List.length_cons]; omega)
theorem ok_delays (T : Txt K mg) {f : Addr} {fd : FuncData} (D : C8.Def K mg "_law_delays" s_law_delays f fd) (b : Binds K fd ["_law_state", "_law_plan_here", "_law_found"] []) (g_law_drawn : C8.Cal P w K mg base 1 "_law_drawn" (sp_drawn K) []) : ∀ n : Nat, C8.Cal P w K mg base (n + 1) "_law_delays" (sp_delays K n) []
  | 0 => ⟨f, fd, ["_law_state", "_law_plan_here", "_law_found"], [], ⟨fun _ _ _ _ h => h.elim, fun _ _ _ _ _ _ _ _ _ _ _ _ _ h => h.elim⟩, D.mgf, D.kp, b, .nil⟩
  | n + 1 => delays_step T D b g_law_drawn (ok_delays T D b g_law_drawn n)
end
end K04
namespace K04
open PySem PySem.Spec PyProof.Rows L2 Wd
/-- .. and what the program's own text names -/
structure TxtP (K : PySem.W.Frag) (mg : Str → Option Value) : Prop extends Txt K mg where
  k_LONGEST_WORK : ∃ t, mg "LONGEST_WORK" = some (.int 1000 t)
  k_MOST_TIMES : ∃ t, mg "MOST_TIMES" = some (.int 9 t)
  k_LONGEST_ROW : ∃ t, mg "LONGEST_ROW" = some (.int 20 t)
  k_MOST_PLANS : ∃ t, mg "MOST_PLANS" = some (.int 30 t)
  k_MOST_DEEP : ∃ t, mg "MOST_DEEP" = some (.int 6 t)
  k_MOST_LOOPS : ∃ t, mg "MOST_LOOPS" = some (.int 2 t)
section
variable {P : Program} {w : World} {K : PySem.W.Frag} {mg : Str → Option Value} {base : Heap}
theorem g_truT {H : Hp} {p : Addr} {xs : List V} {QB : Bool → Hp → Prop} (h : SqT K H p xs) (q : QB (!xs.isEmpty) H) : ∃ k, TruV K (.ref p) H k ∧ QB k H := ⟨_, .inr (.inl ⟨xs, h, rfl⟩), q⟩
theorem g_truL {H : Hp} {p : Addr} {xs : List V} {QB : Bool → Hp → Prop} (h : SqL K H p xs) (q : QB (!xs.isEmpty) H) : ∃ k, TruV K (.ref p) H k ∧ QB k H := ⟨_, .inl ⟨xs, h, rfl⟩, q⟩
abbrev s_is_number : Stmt := top 12
theorem sc_is_number : FnScope ["value"] ["value"] (C8.fnScope s_is_number) := C8.fnScope_by (by decide +kernel)
def sp_is_number : Sp := fun vs H Q _ => ∃ i : Int, vs = [.int i] ∧ Q (.bl true) H
theorem ok_is_number (T : TxtP K mg) {f : Addr} {fd : FuncData} (D : C8.Def K mg "is_number" s_is_number f fd) (b : Binds K fd ["value"] []) : C8.Cal P w K mg base 1 "is_number" sp_is_number [] := by
  refine C8.cal0 D b .nil sc_is_number (fun vs H Q E h => ?_) fun cdv A outer s H vs Q E hr h => ?_
  · obtain ⟨i, rfl, _⟩ := h; rfl
  · obtain ⟨i, rfl, q⟩ := h
    have nd := sc_is_number.nd
    refine ⟨_, (pss_one (ps_ret (pe_and (pe_callB (r := rIsi K) call_isi (by rfl) T.n_isinstance (by decide +kernel) (pa_cons (pv 0) (pa_cons (pe_bltn (v := .ty "int") (by rfl) T.n_int (by decide +kernel) rfl) pa_nil))) (pe_one (pe_not (pe_callB (r := rIsi K) call_isi (by rfl) T.n_isinstance (by decide +kernel) (pa_cons (pv 0) (pa_cons (pe_bltn (v := .ty "bool") (by rfl) T.n_bool (by decide +kernel) rfl) pa_nil)))))))), ?_⟩
    walk_at "go"
    refine g_isi (.ty "int") (.base (.int i)) (kit_ty (r := true) (by decide +kernel)) ?_
    walk_at "go"
    refine g_isi (.ty "bool") (.base (.int i)) (kit_ty (r := false) (by decide +kernel)) ?_
    walk_at "go"
    exact q

abbrev s_is_range : Stmt := top 13
theorem sc_is_range : FnScope ["least", "most", "limit"] ["least", "most", "limit"] (C8.fnScope s_is_range) := C8.fnScope_by (by decide +kernel)
def sp_is_range : Sp := fun vs H Q _ => ∃ i j k : Int, vs = [.int i, .int j, .int k] ∧ (0 ≤ i ∧ i ≤ j ∧ j ≤ k) ∧ Q (.bl true) H
theorem ok_is_range (T : TxtP K mg) {f : Addr} {fd : FuncData} (D : C8.Def K mg "is_range" s_is_range f fd) (b : Binds K fd ["least", "most", "limit"] []) (g_is_number : C8.Cal P w K mg base 1 "is_number" sp_is_number []) : C8.Cal P w K mg base 2 "is_range" sp_is_range [] := by
  refine C8.cal0 D b .nil sc_is_range (fun vs H Q E h => ?_) fun cdv A outer s H vs Q E hr h => ?_
  · obtain ⟨i, j, k, rfl, _⟩ := h; rfl
  · obtain ⟨i, j, k, rfl, ⟨h1, h2, h3⟩, q⟩ := h
    have nd := sc_is_range.nd
    refine ⟨_, (pss_one (ps_ret (pe_and (C8.pe_c g_is_number hr (by first | decide | exact Nat.le_refl _ | omega) (by rfl) (pa_cons (pv 0) pa_nil)) (pe_and (C8.pe_c g_is_number hr (by first | decide | exact Nat.le_refl _ | omega) (by rfl) (pa_cons (pv 1) pa_nil)) (pe_one (pe_chain3 op_le op_le op_le pe_int (pv 0) (pv 1) (pv 2))))))), ?_⟩
    walk_at "go"
    refine ⟨i, rfl, ?_⟩
    walk_at "go"
    refine ⟨j, rfl, ?_⟩
    walk_at "go"
    refine g_ite (fun _ => ?_) (fun h => absurd h1 h)
    walk_at "go"
    refine g_ite (fun _ => ?_) (fun h => absurd h2 h)
    walk_at "go"
    rw [decide_eq_true h3]
    exact q

abbrev s_has_form : Stmt := top 21
theorem sc_has_form : FnScope ["plan", "word"] ["plan"] (C8.fnScope s_has_form) := C8.fnScope_by (by decide +kernel)
def sp_has_form (K : PySem.W.Frag) : Sp := fun vs H Q _ => ∃ (v : V) (p : Pl) (d l : Nat), vs = [v] ∧ PlA H v p ∧ okP d l p ∧ Q (.bl true) H
theorem ok_has_form (T : TxtP K mg) {f : Addr} {fd : FuncData} (D : C8.Def K mg "has_form" s_has_form f fd) (b : Binds K fd ["plan"] []) (g_is_range : C8.Cal P w K mg base 2 "is_range" sp_is_range []) : C8.Cal P w K mg base 3 "has_form" (sp_has_form K) [] := by
  refine C8.cal0 D b .nil sc_has_form (fun vs H Q E h => ?_) fun cdv A outer s H vs Q E hr h => ?_
  · obtain ⟨v, p, d, l, rfl, _⟩ := h; rfl
  · obtain ⟨v, p, d, l, rfl, hp, ok, q⟩ := h
    have nd := sc_has_form.nd
    obtain ⟨_, c_LONGEST_WORK⟩ := T.k_LONGEST_WORK
    obtain ⟨_, c_MOST_TIMES⟩ := T.k_MOST_TIMES
    obtain ⟨_, c_LONGEST_ROW⟩ := T.k_LONGEST_ROW
    refine ⟨_, (pss_cons (ps_if (PW.pt (pw_or (pt_not (pt_val (pe_callB (r := rIsi K) call_isi (by rfl) T.n_isinstance (by decide +kernel) (pa_cons (pv 0) (pa_cons (pe_bltn (v := .ty "tuple") (by rfl) T.n_tuple (by decide +kernel) rfl) pa_nil))))) (pw_or1 (pt_not (pt_truth (pv 0) (by intro _; rfl)))))) (pss_one (ps_ret pe_bl)) pss_nil)
      (pss_cons (ps_set (i := 1) nd rfl (Or.inl rfl) (pe_ix (r := rIxT K) ix_tup (pv 0) pe_int (fun _ _ => rfl)))
      (pss_cons (ps_if (pt_cmpR op_eq (pv 1) pe_str (nomark _)) (pss_one (ps_ret (pe_cmpR op_eq (pe_callB (r := Wd.rLen K) call_len1 (by rfl) T.n_len PySem.boot_len (pa_cons (pv 0) pa_nil)) pe_int (nomark _)))) pss_nil)
      (pss_cons (ps_if (pt_cmpR op_eq (pv 1) pe_str (nomark _)) (pss_one (ps_ret (pe_and (pe_cmpR op_eq (pe_callB (r := Wd.rLen K) call_len1 (by rfl) T.n_len PySem.boot_len (pa_cons (pv 0) pa_nil)) pe_int (nomark _)) (pe_one (C8.pe_c g_is_range hr (by first | decide | exact Nat.le_refl _ | omega) (by rfl) (pa_cons (pe_ix (r := rIxT K) ix_tup (pv 0) pe_int (fun _ _ => rfl)) (pa_cons (pe_ix (r := rIxT K) ix_tup (pv 0) pe_int (fun _ _ => rfl)) (pa_cons (pe_glob (v := .int 1000) rfl c_LONGEST_WORK ⟨_, rfl⟩) pa_nil)))))))) pss_nil)
      (pss_cons (ps_if (PW.pt (pw_or (pt_cmpR op_eq (pv 1) pe_str (nomark _)) (pw_or1 (pt_cmpR op_eq (pv 1) pe_str (nomark _))))) (pss_one (ps_ret (pe_and (pe_cmpR op_eq (pe_callB (r := Wd.rLen K) call_len1 (by rfl) T.n_len PySem.boot_len (pa_cons (pv 0) pa_nil)) pe_int (nomark _)) (pe_and (pe_callB (r := rIsi K) call_isi (by rfl) T.n_isinstance (by decide +kernel) (pa_cons (pe_ix (r := rIxT K) ix_tup (pv 0) pe_int (fun _ _ => rfl)) (pa_cons (pe_bltn (v := .ty "tuple") (by rfl) T.n_tuple (by decide +kernel) rfl) pa_nil))) (pe_one (pe_chain op_le op_le pe_int (pe_callB (r := Wd.rLen K) call_len1 (by rfl) T.n_len PySem.boot_len (pa_cons (pe_ix (r := rIxT K) ix_tup (pv 0) pe_int (fun _ _ => rfl)) pa_nil)) (pe_glob (v := .int 20) rfl c_LONGEST_ROW ⟨_, rfl⟩))))))) pss_nil)
      (pss_cons (ps_if (pt_cmpR op_eq (pv 1) pe_str (nomark _)) (pss_one (ps_ret (pe_and (pe_cmpR op_eq (pe_callB (r := Wd.rLen K) call_len1 (by rfl) T.n_len PySem.boot_len (pa_cons (pv 0) pa_nil)) pe_int (nomark _)) (pe_one (C8.pe_c g_is_range hr (by first | decide | exact Nat.le_refl _ | omega) (by rfl) (pa_cons (pe_ix (r := rIxT K) ix_tup (pv 0) pe_int (fun _ _ => rfl)) (pa_cons (pe_ix (r := rIxT K) ix_tup (pv 0) pe_int (fun _ _ => rfl)) (pa_cons (pe_glob (v := .int 9) rfl c_MOST_TIMES ⟨_, rfl⟩) pa_nil)))))))) pss_nil)
      (pss_one (ps_ret pe_bl)))))))), ?_⟩
    cases hp with
    | pat ha =>
      walk_at "go"
      refine g_isiB (.ty _) (ty_tup (SqT.of ha)) (b := true) (by decide +kernel) ?_
      walk_at "go"
      refine ⟨_, .inr (.inl ⟨_, SqT.of ha, rfl⟩), ?_⟩
      walk_at "go"
      refine g_ixT (SqT.of ha) rfl ?_
      walk_at "go"
      refine g_len (.inr (SqT.of ha)) ?_
      walk_at "go"
      exact q
    | @work a x y ha =>
      unfold okP at ok
      walk_at "go"
      refine g_isiB (.ty _) (ty_tup (SqT.of ha)) (b := true) (by decide +kernel) ?_
      walk_at "go"
      refine ⟨_, .inr (.inl ⟨_, SqT.of ha, rfl⟩), ?_⟩
      walk_at "go"
      refine g_ixT (SqT.of ha) rfl ?_
      walk_at "go"
      refine g_len (.inr (SqT.of ha)) ?_
      walk_at "go"
      refine g_ixT (SqT.of ha) rfl ?_
      walk_at "go"
      refine g_ixT (SqT.of ha) rfl ?_
      walk_at "go"
      exact ⟨x, y, 1000, rfl, ok, q⟩
    | @row a c vs ps ha hc hps =>
      match d, ok with
      | 0, ok => unfold okP at ok; exact ok.elim
      | d + 1, ok =>
      unfold okP at ok
      have ln := hps.len
      walk_at "go"
      refine g_isiB (.ty _) (ty_tup (SqT.of ha)) (b := true) (by decide +kernel) ?_
      walk_at "go"
      refine ⟨_, .inr (.inl ⟨_, SqT.of ha, rfl⟩), ?_⟩
      walk_at "go"
      refine g_ixT (SqT.of ha) rfl ?_
      walk_at "go"
      refine g_len (.inr (SqT.of ha)) ?_
      walk_at "go"
      refine g_ixT (SqT.of ha) rfl ?_
      walk_at "go"
      refine g_isiB (.ty _) (ty_tup (SqT.of hc)) (b := true) (by decide +kernel) ?_
      walk_at "go"
      refine g_ixT (SqT.of ha) rfl ?_
      walk_at "go"
      refine g_len (.inr (SqT.of hc)) ?_
      walk_at "go"
      refine g_ite (fun _ => ?_) (fun h => absurd (by omega) h)
      walk_at "go"
      rw [decide_eq_true (by omega)]
      exact q
    | @either a c vs ps ha hc hps =>
      match d, ok with
      | 0, ok => unfold okP at ok; exact ok.elim
      | d + 1, ok =>
      unfold okP at ok
      have ln := hps.len
      walk_at "go"
      refine g_isiB (.ty _) (ty_tup (SqT.of ha)) (b := true) (by decide +kernel) ?_
      walk_at "go"
      refine ⟨_, .inr (.inl ⟨_, SqT.of ha, rfl⟩), ?_⟩
      walk_at "go"
      refine g_ixT (SqT.of ha) rfl ?_
      walk_at "go"
      refine g_len (.inr (SqT.of ha)) ?_
      walk_at "go"
      refine g_ixT (SqT.of ha) rfl ?_
      walk_at "go"
      refine g_isiB (.ty _) (ty_tup (SqT.of hc)) (b := true) (by decide +kernel) ?_
      walk_at "go"
      refine g_ixT (SqT.of ha) rfl ?_
      walk_at "go"
      refine g_len (.inr (SqT.of hc)) ?_
      walk_at "go"
      refine g_ite (fun _ => ?_) (fun h => absurd (by omega) h)
      walk_at "go"
      rw [decide_eq_true (by omega)]
      exact q
    | @loop a x y u p ha hu =>
      match d, ok with
      | 0, ok => unfold okP at ok; exact ok.elim
      | d + 1, ok =>
      match l, ok with
      | 0, ok => unfold okP at ok; exact ok.elim
      | l + 1, ok =>
      unfold okP at ok
      walk_at "go"
      refine g_isiB (.ty _) (ty_tup (SqT.of ha)) (b := true) (by decide +kernel) ?_
      walk_at "go"
      refine ⟨_, .inr (.inl ⟨_, SqT.of ha, rfl⟩), ?_⟩
      walk_at "go"
      refine g_ixT (SqT.of ha) rfl ?_
      walk_at "go"
      refine g_len (.inr (SqT.of ha)) ?_
      walk_at "go"
      refine g_ixT (SqT.of ha) rfl ?_
      walk_at "go"
      refine g_ixT (SqT.of ha) rfl ?_
      walk_at "go"
      exact ⟨x, y, 9, rfl, ⟨ok.1, ok.2.1, ok.2.2.1⟩, q⟩
end
end K04
namespace K04
open PySem PySem.Spec PyProof.Rows L2 Wd
section
variable {P : Program} {w : World} {K : PySem.W.Frag} {mg : Str → Option Value} {base : Heap}
/-- the plans that a plan is made of -/
def kids : Pl → List Pl
  | .row ps => ps
  | .either ps => ps
  | .loop _ _ p => [p]
  | _ => []
abbrev s_plans_in : Stmt := top 22
theorem sc_plans_in : FnScope ["plan"] ["plan"] (C8.fnScope s_plans_in) := C8.fnScope_by (by decide +kernel)
def sp_plans_in (K : PySem.W.Frag) : Sp := fun vs H Q _ => ∃ (v : V) (p : Pl), vs = [v] ∧ PlA H v p ∧ ∀ H' t us, Same H H' → H' t = some (.tup us) → PlAs H' us (kids p) → Q (.ref t) H'
theorem ok_plans_in (T : TxtP K mg) {f : Addr} {fd : FuncData} (D : C8.Def K mg "plans_in" s_plans_in f fd) (b : Binds K fd ["plan"] []) : C8.Cal P w K mg base 1 "plans_in" (sp_plans_in K) [] := by
  refine C8.cal0 D b .nil sc_plans_in (fun vs H Q E h => ?_) fun cdv A outer s H vs Q E hr h => ?_
  · obtain ⟨v, p, rfl, _⟩ := h; rfl
  · obtain ⟨v, p, rfl, hp, q⟩ := h
    have nd := sc_plans_in.nd
    refine ⟨_, (pss_cons (ps_if (PW.pt (pw_or (pt_cmpR op_eq (pe_ix (r := rIxT K) ix_tup (pv 0) pe_int (fun _ _ => rfl)) pe_str (nomark _)) (pw_or1 (pt_cmpR op_eq (pe_ix (r := rIxT K) ix_tup (pv 0) pe_int (fun _ _ => rfl)) pe_str (nomark _))))) (pss_one (ps_ret (pe_ix (r := rIxT K) ix_tup (pv 0) pe_int (fun _ _ => rfl)))) pss_nil)
      (pss_cons (ps_if (pt_cmpR op_eq (pe_ix (r := rIxT K) ix_tup (pv 0) pe_int (fun _ _ => rfl)) pe_str (nomark _)) (pss_one (ps_ret (pe_tup (pa_cons (pe_ix (r := rIxT K) ix_tup (pv 0) pe_int (fun _ _ => rfl)) pa_nil)))) pss_nil)
      (pss_one (ps_ret (pe_tup pa_nil))))), ?_⟩
    cases hp with
    | pat ha =>
      walk_at "go"
      refine g_ixT (SqT.of ha) rfl ?_
      walk_at "go"
      refine g_ixT (SqT.of ha) rfl ?_
      walk_at "go"
      refine g_ixT (SqT.of ha) rfl ?_
      walk_at "go"
      intro t ht
      exact q _ t [] (same_new ht) upd_same .nil
    | work ha =>
      walk_at "go"
      refine g_ixT (SqT.of ha) rfl ?_
      walk_at "go"
      refine g_ixT (SqT.of ha) rfl ?_
      walk_at "go"
      refine g_ixT (SqT.of ha) rfl ?_
      walk_at "go"
      intro t ht
      exact q _ t [] (same_new ht) upd_same .nil
    | row ha hc hps =>
      walk_at "go"
      refine g_ixT (SqT.of ha) rfl ?_
      walk_at "go"
      refine g_ixT (SqT.of ha) rfl ?_
      walk_at "go"
      exact q _ _ _ (fun _ _ h => h) hc hps
    | either ha hc hps =>
      walk_at "go"
      refine g_ixT (SqT.of ha) rfl ?_
      walk_at "go"
      refine g_ixT (SqT.of ha) rfl ?_
      walk_at "go"
      refine g_ixT (SqT.of ha) rfl ?_
      walk_at "go"
      exact q _ _ _ (fun _ _ h => h) hc hps
    | @loop a x y u p ha hu =>
      walk_at "go"
      refine g_ixT (SqT.of ha) rfl ?_
      walk_at "go"
      refine g_ixT (SqT.of ha) rfl ?_
      walk_at "go"
      refine g_ixT (SqT.of ha) rfl ?_
      walk_at "go"
      refine g_ixT (SqT.of ha) rfl ?_
      walk_at "go"
      intro t ht
      exact q _ t _ (same_new ht) upd_same (.cons (PlA_keep (keepT_same (same_new ht)) _ _ hu) .nil)

/-- what waits to be looked at: of each its depth and its loops; n plans in all -/
inductive Wa (H : Hp) : List V → Nat → Prop
  | nil : Wa H [] 0
  | snoc {vs : List V} {n : Nat} {t : Addr} {v : V} {p : Pl} {deep loops : Int} {d l : Nat} : Wa H vs n → H t = some (.tup [v, .int deep, .int loops]) → PlA H v p → okP d l p → deep + d ≤ 6 → loops + l ≤ 2 → Wa H (vs ++ [.ref t]) (n + Wd.cnt p)
theorem Wa.keep {H H' : Hp} (e : KeepT H H') {vs : List V} {n : Nat} (h : Wa H vs n) : Wa H' vs n := by
  induction h with
  | nil => exact .nil
  | snoc _ h1 h2 h3 h4 h5 ih => exact .snoc ih (e _ _ h1) (PlA_keep e _ _ h2) h3 h4 h5
theorem Wa.len {H : Hp} {vs : List V} {n : Nat} (h : Wa H vs n) : vs.length ≤ n := by
  induction h with
  | nil => exact Nat.le_refl _
  | @snoc vs n t v p deep loops d l _ _ _ _ _ _ ih => rw [List.length_append, List.length_singleton]; have := cnt_pos p; omega
theorem cnt_kids : ∀ p : Pl, Wd.cnt p = 1 + Wd.cnts (kids p)
  | .pat => rfl
  | .work _ _ => rfl
  | .row _ => by simp only [Wd.cnt, kids]
  | .either _ => by simp only [Wd.cnt, kids]
  | .loop _ _ _ => by simp only [Wd.cnt, kids, Wd.cnts, Nat.add_zero]
theorem cnts_take {ps : List Pl} {i : Nat} {p : Pl} (h : ps[i]? = some p) : Wd.cnts (ps.take (i + 1)) = Wd.cnts (ps.take i) + Wd.cnt p := by
  rw [take_snoc h, cnts_app]; simp only [Wd.cnts, Nat.add_zero]
theorem Wa.inv {H : Hp} {xs : List V} {n : Nat} (h : Wa H xs n) : (xs = [] ∧ n = 0) ∨ ∃ (vs : List V) (m : Nat) (t : Addr) (v : V) (p : Pl) (deep loops : Int) (d l : Nat), xs = vs ++ [.ref t] ∧ n = m + Wd.cnt p ∧ Wa H vs m ∧ H t = some (.tup [v, .int deep, .int loops]) ∧ PlA H v p ∧ okP d l p ∧ deep + d ≤ 6 ∧ loops + l ≤ 2 := by
  cases h with
  | nil => exact .inl ⟨rfl, rfl⟩
  | snoc h1 h2 h3 h4 h5 h6 => exact .inr ⟨_, _, _, _, _, _, _, _, _, rfl, rfl, h1, h2, h3, h4, h5, h6⟩
theorem cnts_take_le : ∀ (ps : List Pl) (i : Nat), Wd.cnts (ps.take i) ≤ Wd.cnts ps
  | [], i => by rw [List.take_nil]; exact Nat.le_refl _
  | p :: ps, 0 => Nat.zero_le _
  | p :: ps, i + 1 => by have := cnts_take_le ps i; simp only [List.take_succ_cons, Wd.cnts]; omega
def word : Pl → Str
  | .pat => "pat"
  | .work _ _ => "work"
  | .row _ => "row"
  | .either _ => "either"
  | .loop _ _ _ => "loop"
def lp : Pl → Nat
  | .loop _ _ _ => 1
  | _ => 0
theorem word_at {H : Hp} {v : V} {p : Pl} (h : PlA H v p) : ∃ a xs, v = .ref a ∧ H a = some (.tup (.str (word p) :: xs)) := by
  cases h with
  | pat h => exact ⟨_, _, rfl, h⟩
  | work h => exact ⟨_, _, rfl, h⟩
  | row h _ _ => exact ⟨_, _, rfl, h⟩
  | either h _ _ => exact ⟨_, _, rfl, h⟩
  | loop h _ => exact ⟨_, _, rfl, h⟩
theorem lp_yes {p : Pl} (h : word p = "loop") : lp p = 1 := by
  cases p with
  | loop _ _ _ => rfl
  | pat => exact absurd h (by decide)
  | work _ _ => exact absurd h (by decide : ¬ (Str.ofString "work" = Str.ofString "loop"))
  | row _ => exact absurd h (by decide : ¬ (Str.ofString "row" = Str.ofString "loop"))
  | either _ => exact absurd h (by decide : ¬ (Str.ofString "either" = Str.ofString "loop"))
theorem lp_no {p : Pl} (h : ¬ word p = "loop") : lp p = 0 := by
  cases p with
  | loop _ _ _ => exact absurd rfl h
  | pat => rfl
  | work _ _ => rfl
  | row _ => rfl
  | either _ => rfl
theorem kids_ok : ∀ {p : Pl} {d l : Nat}, okP d l p → lp p ≤ l ∧ (kids p = [] ∨ ∃ d', d = d' + 1 ∧ okPs d' (l - lp p) (kids p))
  | .pat, _, _, _ => ⟨Nat.zero_le _, .inl rfl⟩
  | .work _ _, _, _, _ => ⟨Nat.zero_le _, .inl rfl⟩
  | .row _, 0, _, h => by unfold okP at h; exact h.elim
  | .row ps, d + 1, l, h => by unfold okP at h; exact ⟨Nat.zero_le _, .inr ⟨d, rfl, h.2.2⟩⟩
  | .either _, 0, _, h => by unfold okP at h; exact h.elim
  | .either ps, d + 1, l, h => by unfold okP at h; exact ⟨Nat.zero_le _, .inr ⟨d, rfl, h.2.2⟩⟩
  | .loop _ _ _, 0, _, h => by unfold okP at h; exact h.elim
  | .loop _ _ _, d + 1, 0, h => by unfold okP at h; exact h.elim
  | .loop _ _ p, d + 1, l + 1, h => by unfold okP at h; exact ⟨Nat.le_add_left _ _, .inr ⟨d, rfl, by show okPs d l [p]; unfold okPs; exact ⟨h.2.2.2, by unfold okPs; trivial⟩⟩⟩
abbrev s_check_plan : Stmt := top 23
theorem sc_check_plan : FnScope ["plan", "waiting", "many", "part", "deep", "loops", "inner"] ["plan"] (C8.fnScope s_check_plan) := C8.fnScope_by (by decide +kernel)
def sp_check_plan (K : PySem.W.Frag) : Sp := fun vs H Q _ => ∃ (v : V) (p : Pl) (d l : Nat), vs = [v] ∧ PlA H v p ∧ okP d l p ∧ d ≤ 5 ∧ l ≤ 2 ∧ cnt p ≤ 30 ∧ ∀ H', Same H H' → Q .non H'
theorem ok_check_plan (T : TxtP K mg) {f : Addr} {fd : FuncData} (D : C8.Def K mg "check_plan" s_check_plan f fd) (b : Binds K fd ["plan"] []) (g_has_form : C8.Cal P w K mg base 3 "has_form" (sp_has_form K) []) (g_plans_in : C8.Cal P w K mg base 1 "plans_in" (sp_plans_in K) []) :
    C8.Cal P w K mg base 4 "check_plan" (sp_check_plan K) [] := by
  refine C8.cal0 D b .nil sc_check_plan (fun vs H Q E h => ?_) fun cdv A outer s H vs Q E hr h => ?_
  · obtain ⟨v, p, d, l, rfl, _⟩ := h; rfl
  · obtain ⟨v, p0, d, l, rfl, hp, ok, hd, hl, hc, q⟩ := h
    have nd := sc_check_plan.nd
    obtain ⟨_, c_MOST_PLANS⟩ := T.k_MOST_PLANS
    obtain ⟨_, c_MOST_DEEP⟩ := T.k_MOST_DEEP
    obtain ⟨_, c_MOST_LOOPS⟩ := T.k_MOST_LOOPS
    refine ⟨_, (pss_cons (ps_set (i := 1) nd rfl (Or.inl rfl) (pe_lst (pa_cons (pe_tup (pa_cons (pv 0) (pa_cons pe_int (pa_cons pe_int pa_nil)))) pa_nil)))
      (pss_cons (ps_set (i := 2) nd rfl (Or.inl rfl) pe_int)
      (pss_one (ps_while PassesOwn.never (pt_truth (pv 1) (by intro _; rfl)) (pss_cons (ps_asg (pe_bm0K (K := K) rfl PySem.F.plainAttrs_list PySem.F.slot_list_pop PySem.F.type_list_pop mt_pop (pv 1)) (pg_tup rfl (pgs_cons (pg_name (i := 3) nd rfl (Or.inl rfl)) (pgs_cons (pg_name (i := 4) nd rfl (Or.inl rfl)) (pgs_cons (pg_name (i := 5) nd rfl (Or.inl rfl)) pgs_nil)))))
      (pss_cons (ps_aug (i := 2) nd rfl (Or.inl rfl) pe_int ip_add)
      (pss_cons (ps_if (PW.pt (pw_or (pt_cmpR op_gt (pv 2) (pe_glob (v := .int 30) rfl c_MOST_PLANS ⟨_, rfl⟩) (nomark _)) (pw_or (pt_cmpR op_gt (pv 4) (pe_glob (v := .int 6) rfl c_MOST_DEEP ⟨_, rfl⟩) (nomark _)) (pw_or1 (pt_not (pt_val (C8.pe_c g_has_form hr (by first | decide | exact Nat.le_refl _ | omega) (by rfl) (pa_cons (pv 3) pa_nil)))))))) (pss_one ps_never) pss_nil)
      (pss_cons (ps_if (pt_cmpR op_eq (pe_ix (r := rIxT K) ix_tup (pv 3) pe_int (fun _ _ => rfl)) pe_str (nomark _)) (pss_one (ps_aug (i := 5) nd rfl (Or.inl rfl) pe_int ip_add)) pss_nil)
      (pss_cons (ps_if (pt_cmpR op_gt (pv 5) (pe_glob (v := .int 2) rfl c_MOST_LOOPS ⟨_, rfl⟩) (nomark _)) (pss_one ps_never) pss_nil)
      (pss_one (ps_for PassesOwn.never rfl (pi_tup (C8.pe_c g_plans_in hr (by first | decide | exact Nat.le_refl _ | omega) (by rfl) (pa_cons (pv 3) pa_nil))) (pg_name (i := 6) nd rfl (Or.inl rfl)) (pss_one (ps_expr (pe_bmK (K := K) rfl PySem.F.plainAttrs_list PySem.F.slot_list_append PySem.F.type_list_append mt_append (pv 1) (pa_cons (pe_tup (pa_cons (pv 6) (pa_cons (pe_op op_add (pv 4) pe_int) (pa_cons (pv 5) pa_nil)))) pa_nil))))))))))))))), ?_⟩
    walk_at "go"
    intro t ht
    walk_at "go"
    intro W hW
    walk_at "go"
    have hW0 : H W = none := by
      by_cases e : W = t
      · rw [e]; exact ht
      · rwa [upd_ne e] at hW
    obtain ⟨a0, xs0, rfl, _⟩ := word_at hp
    have sm0 : Same H (upd (upd H t (.tup [.ref a0, .int 1, .int 0])) W (.lst [.ref t])) := (same_new ht).trans (same_new hW)
    have hp0 : ∀ H', Same H H' → PlA H' (.ref a0) p0 := fun H' s => PlA_keep (keepT_same s) _ _ hp
    refine w_loop (fun m σ H' => ∃ (xs : List V) (many : Int) (v3 v4 v5 v6 : Option V), σ = [some (.ref a0), some (.ref W), some (.int many), v3, v4, v5, v6] ∧ Same H H' ∧ PlA H' (.ref a0) p0 ∧ H' W = some (.lst xs) ∧ Wa H' xs m ∧ 0 ≤ many ∧ many + m ≤ 30) (0 + Wd.cnt p0) ?_ ?_
    · exact ⟨_, 0, _, _, _, _, rfl, sm0, hp0 _ sm0, upd_same, .snoc (vs := []) .nil (same_new hW _ _ upd_same) (hp0 _ sm0) ok (by omega) (by omega), by decide, by omega⟩
    · rintro m σ H' ⟨xs, many, v3, v4, v5, v6, rfl, sm, hp', hWx, wa, le0, le⟩
      walk_at "go"
      rcases wa.inv with ⟨rfl, rfl⟩ | ⟨vs, n, tt0, v, p, deep, loops, d, l, rfl, rfl, wa, hE, pv, okk0, h6, h7⟩
      · refine ⟨false, .inl ⟨[], SqL.of hWx, rfl⟩, ?_⟩
        walk_at "go"
        exact q _ sm
      refine ⟨true, .inl ⟨_, SqL.of hWx, by cases vs <;> rfl⟩, ?_⟩
      refine L2.iteT ?_
      refine ⟨fun σ' H'' => ∃ m', m' < n + Wd.cnt p ∧ ∃ (xs : List V) (many : Int) (v3 v4 v5 v6 : Option V), σ' = [some (.ref a0), some (.ref W), some (.int many), v3, v4, v5, v6] ∧ Same H H'' ∧ PlA H'' (.ref a0) p0 ∧ H'' W = some (.lst xs) ∧ Wa H'' xs m' ∧ 0 ≤ many ∧ many + m' ≤ 30, fun _ _ h => h, ?_⟩
      obtain ⟨lpl, kok⟩ := kids_ok okk0
      have ck := cnt_kids p
      have len1 := wa.len
      walk_at "go"
      refine g_tyL hWx ?_
      refine g_pop hWx (y := .ref tt0) (by rw [List.length_append, List.length_singleton, Nat.add_sub_cancel, List.getElem?_append_right (Nat.le_refl _), Nat.sub_self]; rfl) ?_
      rw [List.dropLast_concat]
      have k1 : KeepT H' (upd H' W (.lst vs)) := keepT_lst hWx
      have sm1 : Same H (upd H' W (.lst vs)) := Wd.Same.mut sm hW0
      have hW1 : upd H' W (.lst vs) W = some (.lst vs) := upd_same
      have wa1 := wa.keep k1
      have pv := PlA_keep k1 _ _ pv
      refine g_gtup (SqT.of (k1 _ _ hE)) rfl ?_
      walk_at "go"
      refine ⟨_, rfl, ?_⟩
      walk_at "go"
      refine ⟨_, _, rfl, rfl, ?_⟩
      walk_at "go"
      refine g_ite (fun hx => absurd (show 30 < many + 1 from hx) (by omega)) (fun _ => ?_)
      walk_at "go"
      refine g_ite (fun hx => absurd hx (by omega)) (fun _ => ?_)
      walk_at "go"
      refine ⟨v, p, d, l, rfl, pv, okk0, ?_⟩
      walk_at "go"
      obtain ⟨av, xv, rfl, hav⟩ := word_at pv
      refine g_ixT (v := .str (word p)) (SqT.of hav) (at_of (j := 0) rfl rfl) ?_
      walk_at "go"
      generalize hv : V.ref av = v at pv ⊢
      refine g_ite (fun hw => ?_) (fun hw => ?_)
      · have lp1 := lp_yes hw
        walk_at "go"
        refine ⟨_, rfl, ?_⟩
        walk_at "go"
        refine ⟨_, _, rfl, rfl, ?_⟩
        walk_at "go"
        refine g_ite (fun hx => absurd (show 2 < loops + 1 from hx) (by omega)) (fun _ => ?_)
        walk_at "go"
        refine ⟨v, p, rfl, pv, fun H4 tt us s4 hT pk => ?_⟩
        have hW4 := s4 _ _ hW1
        have sm4 : Same H H4 := sm1.trans s4
        refine w_tup (xs := us) (fun i σ H' => ∃ (v6 : Option V) (xs : List V), σ = [some (.ref a0), some (.ref W), some (.int (many + 1)), some v, some (.int deep), some (.int (loops + 1)), v6] ∧ Same H H' ∧ H' tt = some (.tup us) ∧ PlAs H' us (kids p) ∧ H' W = some (.lst xs) ∧ Wa H' xs (n + Wd.cnts ((kids p).take i))) ?_ ?_ ?_ ?_
        · exact ⟨_, vs, rfl, sm4, hT, pk, hW4, by simpa only [List.take_zero, Wd.cnts, Nat.add_zero] using wa1.keep (keepT_same s4)⟩
        · rintro i σ H' _ ⟨v6, xs, _, _, hT', _⟩
          exact SqT.of hT'
        · rintro i u σ H' hu ⟨v6, xs, rfl, sm5, hT5, pk5, hW5, wa5⟩
          obtain ⟨q1, hq, pu⟩ := pk5.at hu
          obtain ⟨d', rfl, okk⟩ := kok.resolve_left (fun e => by rw [e] at hq; cases hq)
          have l5 := wa5.len
          have c5 := cnts_take hq
          have c6 : Wd.cnts ((kids p).take (i + 1)) ≤ Wd.cnts (kids p) := cnts_take_le _ _
          walk_at "go"
          refine g_tyL hW5 ?_
          walk_at "go"
          intro e he
          have s6 := same_new (o := .tup [u, .int (deep + 1), .int (loops + 1)]) he
          walk_at "go"
          refine g_append (s6 _ _ hW5) (by omega) ?_
          have k6 : KeepT H' (upd (upd H' e (.tup [u, .int (deep + 1), .int (loops + 1)])) W (.lst (xs ++ [.ref e]))) := (keepT_same s6).trans (keepT_lst (s6 _ _ hW5))
          walk_at "go"
          refine ⟨_, xs ++ [.ref e], rfl, Wd.Same.mut (sm5.trans s6) hW0, ?_, PlAs_keep k6 _ _ pk5, upd_same, ?_⟩
          · exact k6 _ _ hT5
          · rw [c5, ← Nat.add_assoc]
            exact .snoc (wa5.keep k6) (keepT_lst (s6 _ _ hW5) _ _ upd_same) (PlA_keep k6 _ _ pu) (okPs_at okk hq) (by omega) (by omega)
        · rintro σ H' ⟨v6, xs, rfl, sm5, hT5, pk5, hW5, wa5⟩
          rw [pk5.len, List.take_length] at wa5
          walk_at "go"
          exact ⟨_, by omega, xs, _, _, _, _, _, rfl, sm5, hp0 _ sm5, hW5, wa5, (show 0 ≤ many + 1 by omega), (show many + 1 + ((n + Wd.cnts (kids p) : Nat) : Int) ≤ 30 by omega)⟩
      · have lp0 := lp_no hw
        walk_at "go"
        refine g_ite (fun hx => absurd (show 2 < loops from hx) (by omega)) (fun _ => ?_)
        walk_at "go"
        refine ⟨v, p, rfl, pv, fun H4 tt us s4 hT pk => ?_⟩
        have hW4 := s4 _ _ hW1
        have sm4 : Same H H4 := sm1.trans s4
        refine w_tup (xs := us) (fun i σ H' => ∃ (v6 : Option V) (xs : List V), σ = [some (.ref a0), some (.ref W), some (.int (many + 1)), some v, some (.int deep), some (.int loops), v6] ∧ Same H H' ∧ H' tt = some (.tup us) ∧ PlAs H' us (kids p) ∧ H' W = some (.lst xs) ∧ Wa H' xs (n + Wd.cnts ((kids p).take i))) ?_ ?_ ?_ ?_
        · exact ⟨_, vs, rfl, sm4, hT, pk, hW4, by simpa only [List.take_zero, Wd.cnts, Nat.add_zero] using wa1.keep (keepT_same s4)⟩
        · rintro i σ H' _ ⟨v6, xs, _, _, hT', _⟩
          exact SqT.of hT'
        · rintro i u σ H' hu ⟨v6, xs, rfl, sm5, hT5, pk5, hW5, wa5⟩
          obtain ⟨q1, hq, pu⟩ := pk5.at hu
          obtain ⟨d', rfl, okk⟩ := kok.resolve_left (fun e => by rw [e] at hq; cases hq)
          have l5 := wa5.len
          have c5 := cnts_take hq
          have c6 : Wd.cnts ((kids p).take (i + 1)) ≤ Wd.cnts (kids p) := cnts_take_le _ _
          walk_at "go"
          refine g_tyL hW5 ?_
          walk_at "go"
          intro e he
          have s6 := same_new (o := .tup [u, .int (deep + 1), .int loops]) he
          walk_at "go"
          refine g_append (s6 _ _ hW5) (by omega) ?_
          have k6 : KeepT H' (upd (upd H' e (.tup [u, .int (deep + 1), .int loops])) W (.lst (xs ++ [.ref e]))) := (keepT_same s6).trans (keepT_lst (s6 _ _ hW5))
          walk_at "go"
          refine ⟨_, xs ++ [.ref e], rfl, Wd.Same.mut (sm5.trans s6) hW0, ?_, PlAs_keep k6 _ _ pk5, upd_same, ?_⟩
          · exact k6 _ _ hT5
          · rw [c5, ← Nat.add_assoc]
            exact .snoc (wa5.keep k6) (keepT_lst (s6 _ _ hW5) _ _ upd_same) (PlA_keep k6 _ _ pu) (okPs_at okk hq) (by omega) (by omega)
        · rintro σ H' ⟨v6, xs, rfl, sm5, hT5, pk5, hW5, wa5⟩
          rw [pk5.len, List.take_length] at wa5
          walk_at "go"
          exact ⟨_, by omega, xs, _, _, _, _, _, rfl, sm5, hp0 _ sm5, hW5, wa5, (show 0 ≤ many + 1 by omega), (show many + 1 + ((n + Wd.cnts (kids p) : Nat) : Int) ≤ 30 by omega)⟩
end
end K04
namespace K04
open PySem PySem.Spec PyProof.Rows L2 Wd
/-! ### the refusal BadDelays, which bears a place -/
structure TxtB (K : PySem.W.Frag) (mg : Str → Option Value) (CB CD fI : Addr) : Prop where
  T : OexC K CB
  iC : PySem.W.findIn K (.ref CB) "__init__" = some (some (.ref fI))
  tI : PySem.W.typeIn K (.ref fI) = some (.type "function")
  gB : mg "BadDelays" = some (.ref CB)
  gD : mg "DogError" = some (.ref CD)
  r : ClX.CRead K CD (.type "type")
  vV : PySem.W.findCls K (.ref CD) (.type "type") "__init__" = some (.val (.builtin "ValueError.__init__"))
  na : PySem.W.findIn K (.ref CB) "at" = some none
section
variable {P : Program} {w : World} {K : PySem.W.Frag} {mg : Str → Option Value} {base : Heap} {CB CD fI : Addr}
abbrev s_BadDelays_init : Stmt := (C8.clsBody (top 4)).getD 0 (.Pass ⟨0, 0, 0, 0⟩)
theorem sc_BadDelays_init : FnScope ["self", "at"] ["self", "at"] (C8.fnScope s_BadDelays_init) := C8.fnScope_by (by decide +kernel)
def sp_binit (CB : Addr) : Sp := fun vs H Q _ => ∃ (a : Addr) (n : Int), vs = [.ref a, .int n] ∧ (0 ≤ n ∧ n < 10 ^ 6) ∧ H a = some (exo a CB none) ∧ ∀ dx, H dx = none → dx ≠ a → Q .non (upd (upd H dx (exd dx [("at", .int n)])) a (exo a CB (some dx)))
theorem ok_binit (B : TxtB K mg CB CD fI) {fd : FuncData} (F : C8.Fun K "__init__" "BadDelays.__init__" s_BadDelays_init fI fd) : FnOk P w K mg base C8.CX0 1 fI fd ["self", "at"] (sp_binit CB) := by
  refine C8.fn0 F sc_BadDelays_init (fun vs H Q E h => ?_) fun cdv A outer s H vs Q E hr h => ?_
  · obtain ⟨a, n, rfl, _⟩ := h; rfl
  · obtain ⟨a, n, rfl, hn, ha, q⟩ := h
    have nd := sc_BadDelays_init.nd
    refine ⟨_, (pss_cons (ps_expr (pe_cinit (by rfl) B.gD B.r B.vV (pa_cons (pv 0) (pa_cons (pe_joined (.cons pe_str (.cons (pe_fmt (pv 1)) .nil))) pa_nil))))
      (pss_one (ps_ost (pv 0) (pv 1)))), ?_⟩
    have ln : (Str.ofString (toString n)).length ≤ 6 := PyProof.Rows.toString_length_le hn.1 (by decide) hn.2
    have lg : n.natAbs.log2 < 1920 := by
      have : n.natAbs < 2 ^ 1920 := Nat.lt_of_lt_of_le (show n.natAbs < 10 ^ 6 by omega) (by decide)
      by_cases z : n.natAbs = 0
      · rw [z]; decide
      · exact (Nat.log2_lt z).mpr this
    walk_at "go"
    refine ⟨_, rfl, _, rfl, (by decide), _, rfl, .inr ⟨n, rfl, lg, _, rfl, ?_, ?_⟩⟩
    · rw [PyProof.Rows.len_cat]
      exact Nat.le_trans (Nat.add_le_add_left ln _) (by decide)
    refine ⟨a, CB, _, rfl, (by show 1 ≤ 1000; decide), B.T, ha, ?_⟩
    walk_at "go"
    exact ⟨_, rfl, _, rfl, a, CB, rfl, B.T, B.na, .inl ⟨ha, fun dx h1 h2 => q dx h1 h2⟩⟩
theorem use_bad {H : Hp} {n : Int} {Q : XK} (h : 0 ≤ n ∧ n < 10 ^ 6) (q : ∀ H' dx, Same H H' → H dx = none → H' dx = some (.xd [("at", .int n)]) → Q (.ref CB) (some dx) H') :
    ([.int n] : List V).length ≤ 1000 ∧ ∀ a, H a = none → sp_binit CB (.ref a :: ([.int n] ++ [])) (upd H a (exo a CB none))
      (fun v H2 => v = .non ∧ ∃ (d : Addr) (fs : List (Str × V)), H2 a = some (exo a CB (some d)) ∧ H2 d = some (exd d fs) ∧ H d = none ∧ Q (.ref CB) (some d) (upd (del H2 a) d (.xd fs))) (fun _ _ _ => False) :=
  ⟨by show 1 ≤ 1000; decide, fun a ha => ⟨a, n, rfl, h, upd_same, fun dx hdx ndx => by
    have h0 : H dx = none := by rw [upd_ne ndx] at hdx; exact hdx
    refine ⟨rfl, dx, [("at", .int n)], upd_same, by rw [upd_ne ndx]; exact upd_same, h0, q _ dx (fun b o e => ?_) h0 upd_same⟩
    have n1 : b ≠ dx := fun z => by rw [z, h0] at e; cases e
    have n2 : b ≠ a := fun z => by rw [z, ha] at e; cases e
    rw [upd_ne n1, del_ne n2, upd_ne n2, upd_ne n1, upd_ne n2]
    exact e⟩⟩
end
end K04
namespace K04
open PySem PySem.Spec PyProof.Rows L2 Wd
/-! ### the first place that can't be -/
def got (ds : List Int) (u : Nat) (lo hi : Int) : Option Int := match ds[u]? with
  | some d => if lo ≤ d ∧ d ≤ hi then some d else none
  | none => none
def seqB (r : Bool × Nat) (k : Nat → Bool × Nat) : Bool × Nat := if r.1 = true then r else k r.2
def iterB (f : Nat → Bool × Nat) : Nat → Nat → Bool × Nat
  | 0, u => (false, u)
  | n + 1, u => seqB (f u) (iterB f n)
mutual
def fs (ds : List Int) : Pl → Nat → Bool × Nat
  | .pat, u => (false, u)
  | .work a b, u => match got ds u a b with
    | some _ => (false, u + 1)
    | none => (true, u)
  | .row ps, u => fss ds ps u
  | .either ps, u => match got ds u 0 ((ps.length : Int) - 1) with
    | some d => fsAt ds ps d.toNat (u + 1)
    | none => (true, u)
  | .loop a b p, u => match got ds u a b with
    | some d => iterB (fs ds p) d.toNat (u + 1)
    | none => (true, u)
def fss (ds : List Int) : List Pl → Nat → Bool × Nat
  | [], u => (false, u)
  | p :: ps, u => seqB (fs ds p u) (fss ds ps)
def fsAt (ds : List Int) : List Pl → Nat → Nat → Bool × Nat
  | [], _, u => (true, u)
  | p :: _, 0, u => fs ds p u
  | _ :: ps, n + 1, u => fsAt ds ps n u
end
theorem fsAt_at (ds : List Int) : ∀ {ps : List Pl} {n : Nat} {p : Pl}, ps[n]? = some p → ∀ u, fsAt ds ps n u = fs ds p u
  | _ :: _, 0, _, e, u => by cases e; simp only [fsAt]
  | _ :: ps, n + 1, _, e, u => by simp only [fsAt]; exact fsAt_at ds (ps := ps) e u
theorem seqB_no {r : Bool × Nat} {u : Nat} {k : Nat → Bool × Nat} (h : r = (false, u)) : seqB r k = k u := by subst h; rfl
theorem seqB_yes {r : Bool × Nat} {u : Nat} {k : Nat → Bool × Nat} (h : r = (true, u)) : seqB r k = (true, u) := by subst h; rfl
theorem got_some {ds : List Int} {u : Nat} {lo hi d : Int} (h : got ds u lo hi = some d) : ds[u]? = some d ∧ lo ≤ d ∧ d ≤ hi ∧ u < ds.length := by
  unfold got at h
  split at h
  · rename_i d' e
    split at h
    · rename_i b
      cases h
      exact ⟨e, b.1, b.2, (List.getElem?_eq_some_iff.mp e).1⟩
    · cases h
  · cases h
theorem drop_at {α : Type} : ∀ {l : List α} {i : Nat} {x : α}, l[i]? = some x → l.drop i = x :: l.drop (i + 1)
  | _ :: _, 0, _, e => by cases e; rfl
  | _ :: l, i + 1, _, e => drop_at (l := l) (i := i) e
mutual
/-- how many pats at the most -/
def mp : Pl → Nat
  | .pat => 1
  | .work _ _ => 0
  | .row ps => mps ps
  | .either ps => mps ps
  | .loop _ _ p => 9 * mp p
def mps : List Pl → Nat
  | [] => 0
  | p :: ps => mp p + mps ps
end
theorem mps_at {ps : List Pl} {i : Nat} {p : Pl} (h : ps[i]? = some p) : mp p ≤ mps ps := by
  induction ps generalizing i with
  | nil => cases h
  | cons q ps ih =>
    match i, h with
    | 0, h => cases h; simp only [mps]; omega
    | i + 1, h => have := ih (i := i) h; simp only [mps]; omega

/-! ### a run -/
structure TxtR (K : PySem.W.Frag) (CR : Addr) : Prop where
  c : Cls K CR
  nD : NoAttr K CR "delays"
  nU : NoAttr K CR "used"
  nN : NoAttr K CR "now"
  nP : NoAttr K CR "pats"
section
variable {P : Program} {w : World} {K : PySem.W.Frag} {mg : Str → Option Value} {base : Heap} {CR CB CD fI : Addr}
abbrev runF (LA PA : Addr) (u t : Int) : List (Str × V) := [("delays", .ref LA), ("used", .int u), ("now", .int t), ("pats", .ref PA)]
theorem lk_d {LA PA : Addr} {u t : Int} : (runF LA PA u t).lookup ("delays" : Str) = some (.ref LA) := rfl
theorem lk_u {LA PA : Addr} {u t : Int} : (runF LA PA u t).lookup ("used" : Str) = some (.int u) := rfl
theorem lk_n {LA PA : Addr} {u t : Int} : (runF LA PA u t).lookup ("now" : Str) = some (.int t) := rfl
theorem lk_p {LA PA : Addr} {u t : Int} : (runF LA PA u t).lookup ("pats" : Str) = some (.ref PA) := rfl
theorem lk_take {LA PA : Addr} {u t : Int} : (runF LA PA u t).lookup ("take" : Str) = none := rfl
theorem lk_follow {LA PA : Addr} {u t : Int} : (runF LA PA u t).lookup ("follow" : Str) = none := rfl
abbrev s_Run_init : Stmt := (C8.clsBody (top 24)).getD 0 (.Pass ⟨0, 0, 0, 0⟩)
abbrev s_Run_take : Stmt := (C8.clsBody (top 24)).getD 1 (.Pass ⟨0, 0, 0, 0⟩)
abbrev s_Run_follow : Stmt := (C8.clsBody (top 24)).getD 2 (.Pass ⟨0, 0, 0, 0⟩)
theorem sc_Run_take : FnScope ["self", "least", "most", "at", "delay"] ["self", "least", "most"] (C8.fnScope s_Run_take) := C8.fnScope_by (by decide +kernel)
def sp_take (K : PySem.W.Frag) (CR CB : Addr) : Sp := fun vs H Q E => ∃ (R dx LA PA : Addr) (u : Nat) (t lo hi : Int) (ds : List Int), vs = [.ref R, .int lo, .int hi] ∧ H R = some (.ins CR dx (runF LA PA u t)) ∧ SqL K H LA (ds.map V.int) ∧ u ≤ ds.length ∧ ds.length < 10 ^ 6 ∧
  (∀ d, got ds u lo hi = some d → Q (.int d) (upd H R (.ins CR dx (runF LA PA (u + 1 : Nat) t)))) ∧ (got ds u lo hi = none → ∀ H' x, Same H H' → H' x = some (.xd [("at", .int u)]) → E (.ref CB) (some x) H')
theorem ok_take (T : TxtP K mg) (TR : TxtR K CR) (B : TxtB K mg CB CD fI) {fdI : FuncData} (B_init : FnOk P w K mg base C8.CX0 1 fI fdI ["self", "at"] (sp_binit CB)) (B_binds : Binds K fdI ["self", "at"] []) {f : Addr} {fd : FuncData} (me : Meth K CR "take" f) (F : C8.Fun K "take" "Run.take" s_Run_take f fd) (b : Binds K fd ["self", "least", "most"] [])
    (g_is_number : C8.Cal P w K mg base 1 "is_number" sp_is_number []) : MetX P w K mg base 3 CR "take" (sp_take K CR CB) := by
  refine metX TR.c me F b sc_Run_take (fun vs H Q E h => ?_) fun cdv A outer s H vs Q E hr h => ?_
  · obtain ⟨R, dx, LA, PA, u, t, lo, hi, ds, rfl, _⟩ := h; rfl
  · obtain ⟨R, dx, LA, PA, u, t, lo, hi, ds, rfl, hR, hL, hu, hz, q1, q2⟩ := h
    have nd := sc_Run_take.nd
    refine ⟨_, (pss_cons (ps_set (i := 3) nd rfl (Or.inl rfl) (pe_fld (pv 0) rfl))
      (pss_cons (ps_if (pt_cmpR op_eq (pv 3) (pe_callB (r := Wd.rLen K) call_len1 (by rfl) T.n_len PySem.boot_len (pa_cons (pe_fld (pv 0) rfl) pa_nil)) (nomark _)) (pss_one (ps_raise rfl (takes_of rfl rfl rfl rfl) (pmk_oex B.T B.iC B.tI B_init (hr.mono (by decide)) B_binds .nil pass0 (by rfl) B.gB (pa_cons (pv 3) pa_nil)))) pss_nil)
      (pss_cons (ps_set (i := 4) nd rfl (Or.inl rfl) (pe_ix (r := rIxL K) ix_list (pe_fld (pv 0) rfl) (pv 3) (fun _ _ => rfl)))
      (pss_cons (ps_if (PW.pt (pw_or (pt_not (pt_val (C8.pe_c g_is_number hr (by first | decide | exact Nat.le_refl _ | omega) (by rfl) (pa_cons (pv 4) pa_nil)))) (pw_or1 (pt_not (pt_chain op_le op_le (pv 1) (pv 4) (pv 2)))))) (pss_one (ps_raise rfl (takes_of rfl rfl rfl rfl) (pmk_oex B.T B.iC B.tI B_init (hr.mono (by decide)) B_binds .nil pass0 (by rfl) B.gB (pa_cons (pv 3) pa_nil)))) pss_nil)
      (pss_cons (ps_fldaug (pv 0) pe_int in_add)
      (pss_one (ps_ret (pv 4)))))))), ?_⟩
    walk_at "go"
    refine ⟨_, rfl, R, CR, dx, _, _, rfl, hR, TR.c, TR.nU, lk_u, ?_⟩
    walk_at "go"
    refine ⟨_, rfl, R, CR, dx, _, _, rfl, hR, TR.c, TR.nD, lk_d, ?_⟩
    walk_at "go"
    refine g_len (.inl hL) ?_
    walk_at "go"
    rw [List.length_map]
    refine g_ite (fun h => ?_) (fun h => ?_)
    · have eu : u = ds.length := by omega
      have gn : got ds u lo hi = none := by
        unfold got
        rw [List.getElem?_eq_none (by omega)]
      walk_at "go"
      exact ⟨_, rfl, use_bad ⟨by omega, by omega⟩ fun H9 x s9 _ hx => q2 gn H9 x s9 hx⟩
    · have hul : u < ds.length := by omega
      walk_at "go"
      refine ⟨_, rfl, R, CR, dx, _, _, rfl, hR, TR.c, TR.nD, lk_d, ?_⟩
      walk_at "go"
      have hd : ds[u]? = some ds[u] := List.getElem?_eq_getElem hul
      generalize ds[u] = d at hd
      refine g_ixL hL (at_of (j := u) (v := .int d) rfl (by rw [List.getElem?_map, hd]; rfl)) ?_
      walk_at "go"
      refine ⟨d, rfl, ?_⟩
      walk_at "go"
      refine g_ite (fun h1 => ?_) (fun h1 => ?_)
      · walk_at "go"
        refine g_iteN (fun h2 => ?_) (fun h2 => ?_)
        · have gn : got ds u lo hi = none := by unfold got; rw [hd]; exact if_neg (fun z => h2 z.2)
          walk_at "go"
          exact ⟨_, rfl, use_bad ⟨by omega, by omega⟩ fun H9 x s9 _ hx => q2 gn H9 x s9 hx⟩
        · walk_at "go"
          refine ⟨_, rfl, R, CR, dx, _, _, rfl, hR, TR.c, TR.nU, lk_u, ?_⟩
          walk_at "go"
          refine ⟨_, _, rfl, rfl, ?_⟩
          refine ⟨_, _, hR, by show 4 < 1000; decide, ?_⟩
          walk_at "go"
          exact q1 d (by unfold got; rw [hd]; exact if_pos ⟨h1, h2⟩)
      · have gn : got ds u lo hi = none := by unfold got; rw [hd]; exact if_neg (fun z => h1 z.1)
        walk_at "go"
        exact ⟨_, rfl, use_bad ⟨by omega, by omega⟩ fun H9 x s9 _ hx => q2 gn H9 x s9 hx⟩
end
end K04
namespace K04
open PySem PySem.Spec PyProof.Rows L2 Wd
section
variable {P : Program} {w : World} {K : PySem.W.Frag} {mg : Str → Option Value} {base : Heap} {CR CB CD fI : Addr}
theorem Frm2.setS {S F : Addr} {H : Hp} {o : HO} : Frm2 S F H (upd H S o) := fun b u n _ h => by rw [upd_ne n]; exact h
theorem keep2 {H H' : Hp} {R PA dx : Addr} {fs : List (Str × V)} {xs : List V} (hR : H R = some (.ins CR dx fs)) (hP : H PA = some (.lst xs)) (f : Frm2 R PA H H') : KeepT H H' := fun b ys h => f b _ (ne_of h hR (fun z => nomatch z)) (ne_of h hP (fun z => nomatch z)) h
theorem frm2_same {S F : Addr} {H H' : Hp} (e : Same H H') : Frm2 S F H H' := fun b o _ _ h => e b o h
theorem sc_Run_follow : FnScope ["self", "plan", "word", "part", "which", "times", "turn"] ["self", "plan"] (C8.fnScope s_Run_follow) := C8.fnScope_by (by decide +kernel)
def sp_follow (K : PySem.W.Frag) (CR CB : Addr) : Nat → Sp
  | 0 => fun _ _ _ _ => False
  | d + 1 => fun vs H Q E => ∃ (R dx LA PA : Addr) (u : Nat) (t : Int) (v : V) (p : Pl) (l : Nat) (ds ps : List Int), vs = [.ref R, v] ∧ PlA H v p ∧ okP d l p ∧ H R = some (.ins CR dx (runF LA PA u t)) ∧ H LA = some (.lst (ds.map V.int)) ∧ LA ≠ PA ∧ H PA = some (.lst (ps.map V.int)) ∧
    u ≤ ds.length ∧ ds.length < 10 ^ 6 ∧ ps.length + mp p ≤ 50000 ∧
    (∀ u', fs ds p u = (false, u') → ∀ H' (t' : Int) (ps' : List Int), Frm2 R PA H H' → u' ≤ ds.length → H' R = some (.ins CR dx (runF LA PA u' t')) → H' PA = some (.lst (ps'.map V.int)) → ps'.length ≤ ps.length + mp p → Q .non H') ∧
    (∀ u', fs ds p u = (true, u') → ∀ H' x, Frm2 R PA H H' → H' x = some (.xd [("at", .int u')]) → E (.ref CB) (some x) H')
theorem follow_step (T : TxtP K mg) (TR : TxtR K CR) {d : Nat} {f : Addr} {fd : FuncData} (me : Meth K CR "follow" f) (F : C8.Fun K "follow" "Run.follow" s_Run_follow f fd) (b : Binds K fd ["self", "plan"] []) (m_take : MetX P w K mg base 3 CR "take" (sp_take K CR CB))
    (m_follow : MetX P w K mg base (d + 3) CR "follow" (sp_follow K CR CB d)) : MetX P w K mg base (d + 4) CR "follow" (sp_follow K CR CB (d + 1)) := by
  refine metX TR.c me F b sc_Run_follow (fun vs H Q E h => ?_) fun cdv A outer s H vs Q E hr h => ?_
  · obtain ⟨R, dx, LA, PA, u, t, v, p, l, ds, ps, rfl, _⟩ := h; rfl
  · obtain ⟨R, dx, LA, PA, u, t, v, p, l, ds, ps, rfl, hp, ok, hR, hL, ne, hP, hu, hz, sz, q1, q2⟩ := h
    have nd := sc_Run_follow.nd
    have nRP : R ≠ PA := ne_of hR hP (fun z => nomatch z)
    have nLR : LA ≠ R := ne_of hL hR (fun z => nomatch z)
    have hr : Room (d + 3) _ := hr
    refine ⟨_, (pss_cons (ps_set (i := 2) nd rfl (Or.inl rfl) (pe_ix (r := rIxT K) ix_tup (pv 1) pe_int (fun _ _ => rfl)))
      (pss_one (ps_if (pt_cmpR op_eq (pv 2) pe_str (nomark _)) (pss_one (ps_expr (pe_bmK (K := K) rfl PySem.F.plainAttrs_list PySem.F.slot_list_append PySem.F.type_list_append mt_append (pe_fld (pv 0) rfl) (pa_cons (pe_fld (pv 0) rfl) pa_nil)))) (pss_one (ps_if (pt_cmpR op_eq (pv 2) pe_str (nomark _)) (pss_one (ps_fldaug (pv 0) (pe_mX m_take hr (by first | decide | exact Nat.le_refl _ | omega) (fun σ => passAt (takes_of rfl rfl rfl rfl) σ) (pv 0) (pa_cons (pe_ix (r := rIxT K) ix_tup (pv 1) pe_int (fun _ _ => rfl)) (pa_cons (pe_ix (r := rIxT K) ix_tup (pv 1) pe_int (fun _ _ => rfl)) pa_nil))) in_add)) (pss_one (ps_if (pt_cmpR op_eq (pv 2) pe_str (nomark _)) (pss_one (ps_for (passes_of rfl) rfl (pi_tup (pe_ix (r := rIxT K) ix_tup (pv 1) pe_int (fun _ _ => rfl))) (pg_name (i := 3) nd rfl (Or.inl rfl)) (pss_one (ps_expr (pe_mX m_follow hr (by first | decide | exact Nat.le_refl _ | omega) (fun σ => passAt (takes_of rfl rfl rfl rfl) σ) (pv 0) (pa_cons (pv 3) pa_nil)))))) (pss_one (ps_if (pt_cmpR op_eq (pv 2) pe_str (nomark _)) (pss_cons (ps_set (i := 4) nd rfl (Or.inl rfl) (pe_mX m_take hr (by first | decide | exact Nat.le_refl _ | omega) (fun σ => passAt (takes_of rfl rfl rfl rfl) σ) (pv 0) (pa_cons pe_int (pa_cons (pe_op op_sub (pe_callB (r := Wd.rLen K) call_len1 (by rfl) T.n_len PySem.boot_len (pa_cons (pe_ix (r := rIxT K) ix_tup (pv 1) pe_int (fun _ _ => rfl)) pa_nil)) pe_int) pa_nil))))
      (pss_one (ps_expr (pe_mX m_follow hr (by first | decide | exact Nat.le_refl _ | omega) (fun σ => passAt (takes_of rfl rfl rfl rfl) σ) (pv 0) (pa_cons (pe_ix (r := rIxT K) ix_tup (pe_ix (r := rIxT K) ix_tup (pv 1) pe_int (fun _ _ => rfl)) (pv 4) (fun _ _ => rfl)) pa_nil))))) (pss_cons (ps_set (i := 5) nd rfl (Or.inl rfl) (pe_mX m_take hr (by first | decide | exact Nat.le_refl _ | omega) (fun σ => passAt (takes_of rfl rfl rfl rfl) σ) (pv 0) (pa_cons (pe_ix (r := rIxT K) ix_tup (pv 1) pe_int (fun _ _ => rfl)) (pa_cons (pe_ix (r := rIxT K) ix_tup (pv 1) pe_int (fun _ _ => rfl)) pa_nil))))
      (pss_one (ps_for (passes_of rfl) rfl (pi_range1 rfl T.n_range (pa_cons (pv 5) pa_nil)) (pg_name (i := 6) nd rfl (Or.inl rfl)) (pss_one (ps_expr (pe_mX m_follow hr (by first | decide | exact Nat.le_refl _ | omega) (fun σ => passAt (takes_of rfl rfl rfl rfl) σ) (pv 0) (pa_cons (pe_ix (r := rIxT K) ix_tup (pv 1) pe_int (fun _ _ => rfl)) pa_nil)))))))))))))))), ?_⟩
    cases hp with
    | pat ha =>
      simp only [mp] at sz q1
      walk_at "go"
      refine g_ixT (SqT.of ha) rfl ?_
      walk_at "go"
      refine ⟨_, rfl, R, CR, dx, _, _, rfl, hR, TR.c, TR.nP, lk_p, ?_⟩
      refine g_tyL hP ?_
      walk_at "go"
      refine ⟨_, rfl, R, CR, dx, _, _, rfl, hR, TR.c, TR.nN, lk_n, ?_⟩
      walk_at "go"
      refine g_append hP (by rw [List.length_map]; omega) ?_
      walk_at "go"
      exact q1 u (by simp only [fs]) _ t (ps ++ [t]) .set hu (by rw [upd_ne nRP]; exact hR) (by rw [upd_same, List.map_append]; rfl) (by rw [List.length_append]; exact Nat.le_refl _)
    | @work a x y ha =>
      simp only [mp] at sz q1
      walk_at "go"
      refine g_ixT (SqT.of ha) rfl ?_
      walk_at "go"
      refine ⟨_, rfl, R, CR, dx, _, _, rfl, hR, TR.c, TR.nN, lk_n, ?_⟩
      refine ⟨_, rfl, R, dx, _, rfl, hR, lk_take, ?_⟩
      walk_at "go"
      refine g_ixT (SqT.of ha) rfl ?_
      walk_at "go"
      refine g_ixT (SqT.of ha) rfl ?_
      walk_at "go"
      refine ⟨R, dx, LA, PA, u, t, x, y, ds, rfl, hR, SqL.of hL, hu, hz, fun d0 hd => ?_, fun hd H' x' s' hx => q2 u (by simp only [fs, hd]) H' x' (frm2_same s') hx⟩
      have hu1 := (got_some hd).2.2.2
      refine ⟨_, _, rfl, rfl, dx, _, upd_same, by show 4 < 1000; decide, ?_⟩
      walk_at "go"
      exact q1 (u + 1) (by simp only [fs, hd]) _ _ ps (Frm2.setS.trans .setS) hu1 upd_same (by rw [upd_ne nRP.symm, upd_ne nRP.symm]; exact hP) (Nat.le_add_right _ _)
    | @row a c vs ps' ha hc hps =>
      match d, ok, m_follow with
      | 0, ok, _ => unfold okP at ok; exact ok.elim
      | d + 1, ok, m_follow =>
      unfold okP at ok
      have ln := hps.len
      simp only [mp] at sz q1
      simp only [fs] at q1 q2
      walk_at "go"
      refine g_ixT (SqT.of ha) rfl ?_
      walk_at "go"
      refine g_ixT (SqT.of ha) rfl ?_
      walk_at "go"
      refine w_tup (xs := vs) (fun i σ H' => ∃ (v3 v4 v5 v6 : Option V) (u1 : Nat) (t1 : Int) (ps1 : List Int), σ = [some (.ref R), some (.ref a), some (.str "row"), v3, v4, v5, v6] ∧ Frm2 R PA H H' ∧ u1 ≤ ds.length ∧ H' R = some (.ins CR dx (runF LA PA u1 t1)) ∧ H' PA = some (.lst (ps1.map V.int)) ∧
        ps1.length + mps (ps'.drop i) ≤ ps.length + mps ps' ∧ fss ds (ps'.drop i) u1 = fss ds ps' u) ?_ ?_ ?_ ?_
      · exact ⟨_, _, _, _, u, t, ps, rfl, .refl _ _ _, hu, hR, hP, by rw [List.drop_zero]; exact Nat.le_refl _, by rw [List.drop_zero]⟩
      · rintro i σ H' _ ⟨v3, v4, v5, v6, u1, t1, ps1, _, f, _⟩
        exact SqT.of (keep2 hR hP f _ _ hc)
      · rintro i v σ H' hv ⟨v3, v4, v5, v6, u1, t1, ps1, rfl, f, hu1, hR1, hP1, le1, e1⟩
        obtain ⟨q0, hq, pv⟩ := hps.at hv
        rw [drop_at hq] at le1 e1
        rw [fss] at e1
        rw [mps] at le1
        walk_at "go"
        refine ⟨_, rfl, R, dx, _, rfl, hR1, lk_follow, ?_⟩
        walk_at "go"
        refine ⟨R, dx, LA, PA, u1, t1, v, q0, _, ds, ps1, rfl, PlA_keep (keep2 hR hP f) _ _ pv, okPs_at ok.2.2 hq, hR1, f _ _ nLR ne hL, ne, hP1, hu1, hz, by omega, fun u2 e2 H2 t2 ps2 f2 hu2 hR2 hP2 le2 => ?_, fun u2 e2 H2 x f2 hx => q2 u2 (by rw [← e1, seqB_yes e2]) H2 x (f.trans f2) hx⟩
        walk_at "go"
        exact ⟨_, _, _, _, u2, t2, ps2, rfl, f.trans f2, hu2, hR2, hP2, by omega, by rw [← e1, seqB_no e2]⟩
      · rintro σ H' ⟨v3, v4, v5, v6, u1, t1, ps1, rfl, f, hu1, hR1, hP1, le1, e1⟩
        rw [ln, List.drop_length] at le1 e1
        rw [fss] at e1
        walk_at "go"
        exact q1 u1 e1.symm H' t1 ps1 f hu1 hR1 hP1 (by simp only [mps] at le1; omega)
    | @either a c vs ps' ha hc hps =>
      match d, ok, m_follow with
      | 0, ok, _ => unfold okP at ok; exact ok.elim
      | d + 1, ok, m_follow =>
      unfold okP at ok
      have ln := hps.len
      simp only [mp] at sz q1
      walk_at "go"
      refine g_ixT (SqT.of ha) rfl ?_
      walk_at "go"
      refine ⟨_, rfl, R, dx, _, rfl, hR, lk_take, ?_⟩
      walk_at "go"
      refine g_ixT (SqT.of ha) rfl ?_
      walk_at "go"
      refine g_len (.inr (SqT.of hc)) ?_
      walk_at "go"
      rw [ln]
      refine ⟨R, dx, LA, PA, u, t, 0, _, ds, rfl, hR, SqL.of hL, hu, hz, fun d0 hd => ?_, fun hd H' x' s' hx => q2 u (by simp only [fs, hd]) H' x' (frm2_same s') hx⟩
      obtain ⟨hd0, d00, d01, hu1⟩ := got_some hd
      have hi : d0.toNat < vs.length := by omega
      have hv0 : vs[d0.toNat]? = some vs[d0.toNat] := List.getElem?_eq_getElem hi
      obtain ⟨p, hpp, pv⟩ := hps.at hv0
      have mle := mps_at hpp
      have efs : fs ds (.either ps') u = fs ds p (u + 1) := by simp only [fs, hd]; exact fsAt_at ds hpp _
      rw [efs] at q1 q2
      have f1 : Frm2 R PA H (upd H R (.ins CR dx (runF LA PA (u + 1 : Nat) t))) := .setS
      have k1 := keep2 hR hP f1
      walk_at "go"
      refine ⟨_, rfl, R, dx, _, rfl, upd_same, lk_follow, ?_⟩
      walk_at "go"
      refine g_ixT (SqT.of (k1 _ _ ha)) rfl ?_
      walk_at "go"
      refine g_ixT (v := vs[d0.toNat]) (SqT.of (k1 _ _ hc)) (at_of (j := d0.toNat) (by omega) hv0) ?_
      walk_at "go"
      refine ⟨R, dx, LA, PA, u + 1, t, _, p, _, ds, ps, rfl, PlA_keep k1 _ _ pv, okPs_at ok.2.2 hpp, upd_same, f1 _ _ nLR ne hL, ne, by rw [upd_ne nRP.symm]; exact hP, hu1, hz, by omega, fun u2 e2 H2 t2 ps2 f2 hu2 hR2 hP2 le2 => ?_, fun u2 e2 H2 x f2 hx => q2 u2 e2 H2 x (f1.trans f2) hx⟩
      walk_at "go"
      exact q1 u2 e2 H2 t2 ps2 (f1.trans f2) hu2 hR2 hP2 (by omega)
    | @loop a x y w0 p ha hw =>
      match d, ok, m_follow with
      | 0, ok, _ => unfold okP at ok; exact ok.elim
      | d + 1, ok, m_follow =>
      match l, ok with
      | 0, ok => unfold okP at ok; exact ok.elim
      | l + 1, ok =>
      unfold okP at ok
      simp only [mp] at sz q1
      walk_at "go"
      refine g_ixT (SqT.of ha) rfl ?_
      walk_at "go"
      refine ⟨_, rfl, R, dx, _, rfl, hR, lk_take, ?_⟩
      walk_at "go"
      refine g_ixT (SqT.of ha) rfl ?_
      walk_at "go"
      refine g_ixT (SqT.of ha) rfl ?_
      walk_at "go"
      refine ⟨R, dx, LA, PA, u, t, x, y, ds, rfl, hR, SqL.of hL, hu, hz, fun d0 hd => ?_, fun hd H' x' s' hx => q2 u (by simp only [fs, hd]) H' x' (frm2_same s') hx⟩
      obtain ⟨hd0, d00, d01, hu1⟩ := got_some hd
      have efs : fs ds (.loop x y p) u = iterB (fs ds p) d0.toNat (u + 1) := by simp only [fs, hd]
      rw [efs] at q1 q2
      have h9 : d0.toNat ≤ 9 := by omega
      have f1 : Frm2 R PA H (upd H R (.ins CR dx (runF LA PA (u + 1 : Nat) t))) := .setS
      walk_at "go"
      refine w_range (by omega) (by omega) (fun i σ H' => ∃ (v3 v4 v6 : Option V) (u1 : Nat) (t1 : Int) (ps1 : List Int), σ = [some (.ref R), some (.ref a), some (.str "loop"), v3, v4, some (.int d0), v6] ∧ Frm2 R PA H H' ∧ u1 ≤ ds.length ∧ H' R = some (.ins CR dx (runF LA PA u1 t1)) ∧ H' PA = some (.lst (ps1.map V.int)) ∧
        ps1.length ≤ ps.length + i * mp p ∧ iterB (fs ds p) (d0.toNat - i) u1 = iterB (fs ds p) d0.toNat (u + 1)) ?_ ?_ ?_
      · exact ⟨_, _, _, u + 1, t, ps, rfl, f1, hu1, upd_same, by rw [upd_ne nRP.symm]; exact hP, Nat.le_add_right _ _, by rw [Nat.sub_zero]⟩
      · rintro i σ H' hi ⟨v3, v4, v6, u1, t1, ps1, rfl, f, hu2, hR1, hP1, le1, e1⟩
        have es : d0.toNat - i = (d0.toNat - (i + 1)) + 1 := by omega
        rw [es, iterB] at e1
        have i8 : i * mp p ≤ 8 * mp p := Nat.mul_le_mul_right _ (by omega)
        walk_at "go"
        refine ⟨_, rfl, R, dx, _, rfl, hR1, lk_follow, ?_⟩
        walk_at "go"
        refine g_ixT (SqT.of (keep2 hR hP f _ _ ha)) rfl ?_
        walk_at "go"
        refine ⟨R, dx, LA, PA, u1, t1, _, p, _, ds, ps1, rfl, PlA_keep (keep2 hR hP f) _ _ hw, ok.2.2.2, hR1, f _ _ nLR ne hL, ne, hP1, hu2, hz, by omega, fun u2 e2 H2 t2 ps2 f2 hu3 hR2 hP2 le2 => ?_, fun u2 e2 H2 x f2 hx => q2 u2 (by rw [← e1, seqB_yes e2]) H2 x (f.trans f2) hx⟩
        walk_at "go"
        exact ⟨_, _, _, u2, t2, ps2, rfl, f.trans f2, hu3, hR2, hP2, by rw [Nat.add_mul]; omega, by rw [← e1, seqB_no e2]⟩
      · rintro σ H' ⟨v3, v4, v6, u1, t1, ps1, rfl, f, hu2, hR1, hP1, le1, e1⟩
        rw [Nat.sub_self, iterB] at e1
        have i9 : d0.toNat * mp p ≤ 9 * mp p := Nat.mul_le_mul_right _ h9
        walk_at "go"
        exact q1 u1 e1.symm H' t1 ps1 f hu2 hR1 hP1 (by omega)
theorem ok_follow (T : TxtP K mg) (TR : TxtR K CR) {f : Addr} {fd : FuncData} (me : Meth K CR "follow" f) (F : C8.Fun K "follow" "Run.follow" s_Run_follow f fd) (b : Binds K fd ["self", "plan"] []) (m_take : MetX P w K mg base 3 CR "take" (sp_take K CR CB)) : ∀ n : Nat, MetX P w K mg base (n + 3) CR "follow" (sp_follow K CR CB n)
  | 0 => ⟨f, fd, ["self", "plan"], TR.c, me, ⟨fun _ _ _ _ h => h.elim, fun _ _ _ _ _ _ _ _ _ _ _ _ _ h => h.elim⟩, b⟩
  | n + 1 => follow_step T TR me F b m_take (ok_follow T TR me F b m_take n)
end
end K04
namespace K04
open PySem PySem.Spec PyProof.Rows L2 Wd
section
variable {P : Program} {w : World} {K : PySem.W.Frag} {mg : Str → Option Value} {base : Heap} {CR CB CD fI : Addr}
theorem sc_Run_init : FnScope ["self", "delays"] ["self", "delays"] (C8.fnScope s_Run_init) := C8.fnScope_by (by decide +kernel)
def sp_init (CR : Addr) : Sp := fun vs H Q _ => ∃ (R dx LA : Addr), vs = [.ref R, .ref LA] ∧ H R = some (.ins CR dx []) ∧ ∀ H' PA, Frm R H H' → H PA = none → H' R = some (.ins CR dx (runF LA PA 0 0)) → H' PA = some (.lst []) → Q .non H'
theorem ok_init (T : TxtP K mg) (TR : TxtR K CR) {f : Addr} {fd : FuncData} (M : Mk K CR f) (hm : mg "Run" = some (.ref CR)) (F : C8.Fun K "__init__" "Run.__init__" s_Run_init f fd) (b : Binds K fd ["self", "delays"] []) : C8.Mak P w K mg base 1 "Run" CR (sp_init CR) [] := by
  refine C8.mak0 M hm F b .nil sc_Run_init (fun vs H Q E h => ?_) fun cdv A outer s H vs Q E hr h => ?_
  · obtain ⟨R, dx, LA, rfl, _⟩ := h; rfl
  · obtain ⟨R, dx, LA, rfl, hR, q⟩ := h
    have nd := sc_Run_init.nd
    refine ⟨_, (pss_cons (ps_fld (pv 0) (pv 1) rfl)
      (pss_cons (ps_fld (pv 0) pe_int rfl)
      (pss_cons (ps_fld (pv 0) pe_int rfl)
      (pss_one (ps_fld (pv 0) (pe_lst pa_nil) rfl))))), ?_⟩
    walk_at "go"
    refine ⟨_, rfl, _, rfl, R, CR, dx, _, rfl, hR, TR.c, TR.nD, by decide, ?_⟩
    walk_at "go"
    refine ⟨_, rfl, R, CR, dx, _, rfl, upd_same, TR.c, TR.nU, by show 1 < 1000; decide, ?_⟩
    walk_at "go"
    refine ⟨_, rfl, R, CR, dx, _, rfl, upd_same, TR.c, TR.nN, by show 2 < 1000; decide, ?_⟩
    walk_at "go"
    refine ⟨Nat.zero_le _, fun PA hPA => ⟨_, rfl, R, CR, dx, _, rfl, same_new hPA _ _ upd_same, TR.c, TR.nP, by show 3 < 1000; decide, ?_⟩⟩
    have f3 : Frm R H (upd (upd (upd H R (HO.ins CR dx (putF ("delays" : Str) (V.ref LA) []))) R (HO.ins CR dx (putF ("used" : Str) (V.int 0) (putF ("delays" : Str) (V.ref LA) [])))) R
      (HO.ins CR dx (putF ("now" : Str) (V.int 0) (putF ("used" : Str) (V.int 0) (putF ("delays" : Str) (V.ref LA) []))))) := (Frm.set.trans .set).trans .set
    have nPR : PA ≠ R := fun z => by rw [z, upd_same] at hPA; cases hPA
    walk_at "go"
    exact q _ PA ((f3.trans (.new hPA)).trans .set) (f3.back nPR hPA) upd_same (by rw [upd_ne nPR, upd_same])

mutual
theorem mp_le : ∀ (p : Pl) (d l : Nat), okP d l p → mp p ≤ Wd.cnt p * 10 ^ l
  | .pat, d, l, h => by simp only [mp, Wd.cnt, Nat.one_mul]; exact ten_pos l
  | .work _ _, d, l, h => Nat.zero_le _
  | .row ps, 0, l, h => by unfold okP at h; exact h.elim
  | .row ps, d + 1, l, h => by
    unfold okP at h
    have := mps_le ps d l h.2.2
    simp only [mp, Wd.cnt, Nat.add_mul]
    omega
  | .either ps, 0, l, h => by unfold okP at h; exact h.elim
  | .either ps, d + 1, l, h => by
    unfold okP at h
    have := mps_le ps d l h.2.2
    simp only [mp, Wd.cnt, Nat.add_mul]
    omega
  | .loop a b p, 0, l, h => by unfold okP at h; exact h.elim
  | .loop a b p, d + 1, 0, h => by unfold okP at h; exact h.elim
  | .loop a b p, d + 1, l + 1, h => by
    unfold okP at h
    have := mp_le p d l h.2.2.2
    simp only [mp, Wd.cnt, Nat.add_mul, Nat.pow_succ]
    have e : Wd.cnt p * (10 ^ l * 10) = 10 * (Wd.cnt p * 10 ^ l) := by rw [← Nat.mul_assoc, Nat.mul_comm]
    omega
theorem mps_le : ∀ (ps : List Pl) (d l : Nat), okPs d l ps → mps ps ≤ Wd.cnts ps * 10 ^ l
  | [], d, l, h => Nat.zero_le _
  | p :: ps, d, l, h => by
    unfold okPs at h
    have h1 := mp_le p d l h.1
    have h2 := mps_le ps d l h.2
    simp only [mps, Wd.cnts, Nat.add_mul]
    omega
end
/-- where the delays can't be: the first place, or how many there are, or the first that isn't used -/
def bad (ds : List Int) (p : Pl) : Option Nat := if (fs ds p 0).1 = true ∨ (fs ds p 0).2 < ds.length then some (fs ds p 0).2 else none
abbrev s_run_plan : Stmt := top 25
theorem sc_run_plan : FnScope ["plan", "delays", "run"] ["plan", "delays"] (C8.fnScope s_run_plan) := C8.fnScope_by (by decide +kernel)
def sp_run_plan (CB : Addr) : Sp := fun vs H Q E => ∃ (v : V) (p : Pl) (LA : Addr) (ds : List Int), vs = [v, .ref LA] ∧ PlA H v p ∧ okP 4 2 p ∧ cnt p ≤ 30 ∧ H LA = some (.lst (ds.map V.int)) ∧ ds.length < 10 ^ 6 ∧
  (bad ds p = none → ∀ v H', Same H H' → Q v H') ∧ (∀ n, bad ds p = some n → ∀ H' x, Same H H' → H' x = some (.xd [("at", .int n)]) → E (.ref CB) (some x) H')
theorem ok_run_plan (T : TxtP K mg) (TR : TxtR K CR) (B : TxtB K mg CB CD fI) {fdI : FuncData} (B_init : FnOk P w K mg base C8.CX0 1 fI fdI ["self", "at"] (sp_binit CB)) (B_binds : Binds K fdI ["self", "at"] []) {f : Addr} {fd : FuncData} (D : C8.Def K mg "run_plan" s_run_plan f fd) (b : Binds K fd ["plan", "delays"] []) (g_check_plan : C8.Cal P w K mg base 4 "check_plan" (sp_check_plan K) [])
    (g_Run : C8.Mak P w K mg base 1 "Run" CR (sp_init CR) []) (m_follow : MetX P w K mg base 8 CR "follow" (sp_follow K CR CB 5)) : CalX P w K mg base 9 "run_plan" (sp_run_plan CB) := by
  refine calX D b sc_run_plan (fun vs H Q E h => ?_) fun cdv A outer s H vs Q E hr h => ?_
  · obtain ⟨v, p, LA, ds, rfl, _⟩ := h; rfl
  · obtain ⟨v, p, LA, ds, rfl, hp, ok, hc, hL, hz, q1, q2⟩ := h
    have nd := sc_run_plan.nd
    refine ⟨_, (pss_cons (ps_expr (C8.pe_c g_check_plan hr (by first | decide | exact Nat.le_refl _ | omega) (by rfl) (pa_cons (pv 0) pa_nil)))
      (pss_cons (ps_set (i := 2) nd rfl (Or.inl rfl) (C8.pe_mk g_Run hr (by first | decide | exact Nat.le_refl _ | omega) (by rfl) (pa_cons (pv 1) pa_nil)))
      (pss_cons (ps_expr (pe_mX m_follow hr (by first | decide | exact Nat.le_refl _ | omega) (fun σ => passAt (takes_of rfl rfl rfl rfl) σ) (pv 2) (pa_cons (pv 0) pa_nil)))
      (pss_cons (ps_if (pt_cmpR op_lt (pe_fld (pv 2) rfl) (pe_callB (r := Wd.rLen K) call_len1 (by rfl) T.n_len PySem.boot_len (pa_cons (pv 1) pa_nil)) (nomark _)) (pss_one (ps_raise rfl (takes_of rfl rfl rfl rfl) (pmk_oex B.T B.iC B.tI B_init (hr.mono (by decide)) B_binds .nil pass0 (by rfl) B.gB (pa_cons (pe_fld (pv 2) rfl) pa_nil)))) pss_nil)
      (pss_one (ps_ret (pe_tup (pa_cons (pe_fld (pv 2) rfl) (pa_cons (pe_fld (pv 2) rfl) pa_nil))))))))), ?_⟩
    have mb := mp_le p 4 2 ok
    have e100 : (10 : Nat) ^ 2 = 100 := rfl
    rw [e100] at mb
    walk_at "go"
    refine ⟨v, p, 4, 2, rfl, hp, ok, by omega, by omega, hc, fun H1 s1 => ?_⟩
    walk_at "go"
    refine ⟨_, rfl, fun R dx hR hdx ndx => ?_⟩
    have s2 := s1.trans (same_new (o := .own R) hdx)
    have hR2 : upd H1 dx (.own R) R = none := by rw [upd_ne ndx.symm]; exact hR
    have s3 := s2.trans (same_new (o := .ins CR dx []) hR2)
    refine ⟨R, dx, LA, rfl, upd_same, fun H4 PA f4 hPA hR4 hP4 => ⟨rfl, ?_⟩⟩
    have hR0 : H R = none := Wd.Same.back s1 hR
    have hPA0 : H PA = none := Wd.Same.back s3 hPA
    have s4 : Same H H4 := fun a o h => f4 a o (fun z => by rw [z, hR0] at h; cases h) (s3 a o h)
    have sF : ∀ H5, Frm2 R PA H4 H5 → Same H H5 := fun H5 f5 a o h => f5 a o (fun z => by rw [z, hR0] at h; cases h) (fun z => by rw [z, hPA0] at h; cases h) (s4 a o h)
    walk_at "go"
    refine ⟨_, rfl, R, dx, _, rfl, hR4, lk_follow, ?_⟩
    walk_at "go"
    refine ⟨R, dx, LA, PA, 0, 0, v, p, _, ds, [], rfl, PlA_keep (keepT_same s4) _ _ hp, ok, hR4, s4 _ _ hL, (fun z => by rw [z, hPA0] at hL; cases hL), hP4, Nat.zero_le _, hz, by simp only [List.length_nil]; omega, fun u5 e5 H5 t5 ps5 f5 hu5 hR5 hP5 le5 => ?_,
      fun u5 e5 H5 x f5 hx => q2 u5 (by unfold bad; rw [e5]; exact if_pos (.inl rfl)) H5 x (sF H5 f5) hx⟩
    have s5 := sF H5 f5
    walk_at "go"
    refine ⟨_, rfl, R, CR, dx, _, _, rfl, hR5, TR.c, TR.nU, lk_u, ?_⟩
    walk_at "go"
    refine g_len (.inl (SqL.of (s5 _ _ hL))) ?_
    walk_at "go"
    rw [List.length_map]
    refine g_ite (fun h => ?_) (fun h => ?_)
    · have lt : u5 < ds.length := by omega
      walk_at "go"
      refine ⟨_, rfl, R, CR, dx, _, _, rfl, hR5, TR.c, TR.nU, lk_u, ?_⟩
      exact use_bad ⟨by omega, by omega⟩ fun H9 x s9 _ hx => q2 u5 (by unfold bad; rw [e5]; exact if_pos (.inr lt)) H9 x (s5.trans s9) hx
    · walk_at "go"
      refine ⟨_, rfl, R, CR, dx, _, _, rfl, hR5, TR.c, TR.nP, lk_p, ?_⟩
      walk_at "go"
      refine ⟨_, rfl, R, CR, dx, _, _, rfl, hR5, TR.c, TR.nN, lk_n, ?_⟩
      walk_at "go"
      intro z hz
      exact q1 (by unfold bad; rw [e5]; exact if_neg (fun c => c.elim (fun z => nomatch z) (fun z => h (by omega)))) _ _ (s5.trans (same_new hz))
end
end K04
namespace K04
open PySem PySem.Spec PyProof.Rows L2 Wd
section
variable {P : Program} {w : World} {K : PySem.W.Frag} {mg : Str → Option Value} {base : Heap}
abbrev s_law_far : Stmt := top 30
theorem sc_law_far : FnScope ["_law_state", "_law_most", "_law_far_here"] ["_law_state", "_law_most"] (C8.fnScope s_law_far) := C8.fnScope_by (by decide +kernel)
def sp_far (K : PySem.W.Frag) : Sp := fun vs H Q _ => ∃ (B : Hp) (S : Addr) (n : Int), vs = [.ref S, .int n] ∧ Dst K B H S ∧ ∀ H' v, Frm S H H' → Dst K B H' S → (v < 0 ∨ n < v) → Q (.int v) H'
theorem ok_far (T : Txt K mg) {f : Addr} {fd : FuncData} (D : C8.Def K mg "_law_far" s_law_far f fd) (b : Binds K fd ["_law_state", "_law_most"] []) (g_law_drawn : C8.Cal P w K mg base 1 "_law_drawn" (sp_drawn K) []) : C8.Cal P w K mg base 2 "_law_far" (sp_far K) [] := by
  refine C8.cal0 D b .nil sc_law_far (fun vs H Q E h => ?_) fun cdv A outer s H vs Q E hr h => ?_
  · obtain ⟨B, S, n, rfl, _⟩ := h; rfl
  · obtain ⟨B, S, n, rfl, d, q⟩ := h
    have nd := sc_law_far.nd
    refine ⟨_, (pss_cons (ps_set (i := 2) nd rfl (Or.inl rfl) (pe_ix (r := rIxL K) ix_list (pe_lst (pa_cons pe_int (pa_cons pe_int (pa_cons (pe_op op_pow pe_int pe_int) pa_nil)))) (C8.pe_c g_law_drawn hr (by first | decide | exact Nat.le_refl _ | omega) (by rfl) (pa_cons (pv 0) (pa_cons pe_int pa_nil))) (fun _ _ => rfl)))
      (pss_one (ps_ret (pe_ix (r := rIxL K) ix_list (pe_lst (pa_cons (pe_op op_sub (pe_op op_sub pe_int pe_int) (C8.pe_c g_law_drawn hr (by first | decide | exact Nat.le_refl _ | omega) (by rfl) (pa_cons (pv 0) (pa_cons (pv 2) pa_nil)))) (pa_cons (pe_op op_add (pe_op op_add (pv 1) pe_int) (C8.pe_c g_law_drawn hr (by first | decide | exact Nat.le_refl _ | omega) (by rfl) (pa_cons (pv 0) (pa_cons (pv 2) pa_nil)))) pa_nil))) (C8.pe_c g_law_drawn hr (by first | decide | exact Nat.le_refl _ | omega) (by rfl) (pa_cons (pv 0) (pa_cons pe_int pa_nil))) (fun _ _ => rfl))))), ?_⟩
    walk_at "go"
    refine g_I (pow_small (by decide) (by decide) (by decide)) ?_
    walk_at "go"
    intro l hl
    have d1 := d.same (same_new (o := .lst [.int 1, .int 20, .int (10 ^ (29 : Int).toNat)]) hl)
    walk_at "go"
    refine use_drawn d1 (by decide) (by decide) fun H2 v f2 d2 v0 v1 => ?_
    have h2 := f2 _ _ (d.ne hl) upd_same
    obtain ⟨x, hx, hx2⟩ := atI_mem (xs := [.int 1, .int 20, .int (10 ^ (29 : Int).toNat)]) v0 v1
    refine g_ixL (SqL.of h2) hx2 ?_
    obtain ⟨z, rfl, z0, z1⟩ : ∃ z, x = V.int z ∧ 0 < z ∧ z < 10 ^ 38 := by
      simp only [List.mem_cons, List.not_mem_nil, or_false] at hx
      rcases hx with rfl | rfl | rfl
      · exact ⟨_, rfl, by decide, by decide⟩
      · exact ⟨_, rfl, by decide, by decide⟩
      · exact ⟨_, rfl, by decide, by decide⟩
    walk_at "go"
    refine use_drawn d2 z0 z1 fun H3 v3 f3 d3 v30 v31 => ?_
    walk_at "go"
    refine use_drawn d3 z0 z1 fun H4 v4 f4 d4 v40 v41 => ?_
    walk_at "go"
    intro l2 hl2
    have d5 := d4.same (same_new (o := .lst [.int (0 - 1 - v3), .int (n + 1 + v4)]) hl2)
    walk_at "go"
    refine use_drawn (n := 2) d5 (by decide) (by decide) fun H6 v6 f6 d6 v60 v61 => ?_
    have h6 := f6 _ _ (d4.ne hl2) upd_same
    have fr : Frm S H H6 := (((((Frm.new hl).trans f2).trans f3).trans f4).trans (.new hl2)).trans f6
    obtain ⟨y, hy, hy2⟩ := atI_mem (xs := [.int (0 - 1 - v3), .int (n + 1 + v4)]) v60 v61
    refine g_ixL (SqL.of h6) hy2 ?_
    simp only [List.mem_cons, List.not_mem_nil, or_false] at hy
    rcases hy with rfl | rfl
    · exact q _ _ fr d6 (.inl (by omega))
    · exact q _ _ fr d6 (.inr (by omega))


abbrev s_law_first : Stmt := top 36
theorem sc_law_first : FnScope ["_law_plan_here", "_law_delays_here", "_law_place", "_law_parts", "_law_bounds", "_law_part", "_law_bad"] ["_law_plan_here", "_law_delays_here", "_law_place"] (C8.fnScope s_law_first) := C8.fnScope_by (by decide +kernel)
def sp_first (K : PySem.W.Frag) : Nat → Sp
  | 0 => fun _ _ _ _ => False
  | d + 1 => fun vs H Q _ => ∃ (v : V) (p : Pl) (l : Nat) (LA : Addr) (ds : List Int) (u : Nat), vs = [v, .ref LA, .int u] ∧ PlA H v p ∧ okP d l p ∧ H LA = some (.lst (ds.map V.int)) ∧ ∀ H' R, Same H H' → H' R = some (.tup [.bl (fs ds p u).1, .int (fs ds p u).2]) → Q (.ref R) H'
theorem g_pairs {σ : L2.St} {H : Hp} {tk tv : TE} {r : List (TE × TE)} {Q : List (V × V) → Hp → Prop} (h : tk σ H fun x H1 => tv σ H1 fun y H2 => tPairs r σ H2 fun ps H3 => Q ((x, y) :: ps) H3) : tPairs ((tk, tv) :: r) σ H Q := h
theorem g_pairs0 {σ : L2.St} {H : Hp} {Q : List (V × V) → Hp → Prop} (h : Q [] H) : tPairs [] σ H Q := h
theorem same_refl (H : Hp) : Same H H := fun _ _ h => h
theorem seqB_end (r : Bool × Nat) : seqB r (fun u => (false, u)) = r := by
  obtain ⟨b, u⟩ := r
  cases b <;> rfl
theorem iter_fss (ds : List Int) (p : Pl) : ∀ (n u : Nat), iterB (fs ds p) n u = fss ds (List.replicate n p) u
  | 0, u => by simp only [iterB, List.replicate_zero, fss]
  | n + 1, u => by
    simp only [iterB, List.replicate_succ, fss]
    congr 1
    funext v
    exact iter_fss ds p n v
theorem got_yes {ds : List Int} {u : Nat} {lo hi d : Int} (e : ds[u]? = some d) (h1 : lo ≤ d) (h2 : d ≤ hi) : got ds u lo hi = some d := by unfold got; rw [e]; exact if_pos ⟨h1, h2⟩
theorem got_no {ds : List Int} {u : Nat} {lo hi d : Int} (e : ds[u]? = some d) (h : ¬ (lo ≤ d ∧ d ≤ hi)) : got ds u lo hi = none := by unfold got; rw [e]; exact if_neg h
theorem got_end {ds : List Int} {u : Nat} {lo hi : Int} (h : ds.length ≤ u) : got ds u lo hi = none := by unfold got; rw [List.getElem?_eq_none h]
theorem first_step (T : Txt K mg) {d : Nat} {f : Addr} {fd : FuncData} (D : C8.Def K mg "_law_first" s_law_first f fd) (b : Binds K fd ["_law_plan_here", "_law_delays_here", "_law_place"] [])
    (g_law_first : C8.Cal P w K mg base (d + 1) "_law_first" (sp_first K d) []) : C8.Cal P w K mg base (d + 2) "_law_first" (sp_first K (d + 1)) [] := by
  refine C8.cal0 D b .nil sc_law_first (fun vs H Q E h => ?_) fun cdv A outer s H vs Q E hr h => ?_
  · obtain ⟨v, p, l, LA, ds, u, rfl, _⟩ := h; rfl
  · obtain ⟨v, p, l, LA, ds, u, rfl, hp, ok, hL, q⟩ := h
    have nd := sc_law_first.nd
    have hr : Room (d + 1) _ := hr
    refine ⟨_, (pss_cons (ps_if (pt_cmpR op_eq (pe_ix (r := rIxT K) ix_tup (pv 0) pe_int (fun _ _ => rfl)) pe_str (nomark _)) (pss_one (ps_ret (pe_tup (pa_cons pe_bl (pa_cons (pv 2) pa_nil))))) pss_nil)
      (pss_cons (ps_set (i := 3) nd rfl (Or.inl rfl) (pe_ix (r := rIxT K) ix_tup (pv 0) pe_int (fun _ _ => rfl)))
      (pss_cons (ps_if (pt_cmpR op_ne (pe_ix (r := rIxT K) ix_tup (pv 0) pe_int (fun _ _ => rfl)) pe_str (nomark _)) (pss_cons (ps_set (i := 4) nd rfl (Or.inl rfl) (pe_ifExp (pt_cmpR op_ne (pe_ix (r := rIxT K) ix_tup (pv 0) pe_int (fun _ _ => rfl)) pe_str (nomark _)) (pe_slice (r := rSlT K) sl_tup (pv 0) (po_some pe_int) (po_some pe_int)) (pe_tup (pa_cons pe_int (pa_cons (pe_op op_sub (pe_callB (r := Wd.rLen K) call_len1 (by rfl) T.n_len PySem.boot_len (pa_cons (pe_ix (r := rIxT K) ix_tup (pv 0) pe_int (fun _ _ => rfl)) pa_nil)) pe_int) pa_nil)))))
      (pss_cons (ps_if (PW.pt (pw_or (pt_cmpR op_ge (pv 2) (pe_callB (r := Wd.rLen K) call_len1 (by rfl) T.n_len PySem.boot_len (pa_cons (pv 1) pa_nil)) (nomark _)) (pw_or1 (pt_not (pt_chain op_le op_le (pe_ix (r := rIxT K) ix_tup (pv 4) pe_int (fun _ _ => rfl)) (pe_ix (r := rIxL K) ix_list (pv 1) (pv 2) (fun _ _ => rfl)) (pe_ix (r := rIxT K) ix_tup (pv 4) pe_int (fun _ _ => rfl))))))) (pss_one (ps_ret (pe_tup (pa_cons pe_bl (pa_cons (pv 2) pa_nil))))) pss_nil)
      (pss_cons (ps_set (i := 3) nd rfl (Or.inl rfl) (pe_dget2 (Nat.lt_of_le_of_lt (Nat.add_le_add_left (by decide) _) hr.units) (pe_disp (pps_cons pe_str (pe_tup pa_nil) (pps_cons pe_str (pe_ifExp (pt_cmpR op_eq (pe_ix (r := rIxT K) ix_tup (pv 0) pe_int (fun _ _ => rfl)) pe_str (nomark _)) (pe_tup (pa_cons (pe_ix (r := rIxT K) ix_tup (pe_ix (r := rIxT K) ix_tup (pv 0) pe_int (fun _ _ => rfl)) (pe_ix (r := rIxL K) ix_list (pv 1) (pv 2) (fun _ _ => rfl)) (fun _ _ => rfl)) pa_nil)) (pe_tup pa_nil)) pps_nil)) (by rfl) (by rfl) (fun z => nomatch z) (by decide)) (pe_ix (r := rIxT K) ix_tup (pv 0) pe_int (fun _ _ => rfl)) (pe_tup pa_nil) ⟨by rfl, by rfl, by rfl, by rfl⟩))
      (pss_cons (ps_if (pt_cmpR op_eq (pe_ix (r := rIxT K) ix_tup (pv 0) pe_int (fun _ _ => rfl)) pe_str (nomark _)) (pss_one (ps_set (i := 3) nd rfl (Or.inl rfl) (pe_op (r := rRepU K) op_repU (pe_tup (pa_cons (pe_ix (r := rIxT K) ix_tup (pv 0) pe_int (fun _ _ => rfl)) pa_nil)) (pe_ix (r := rIxL K) ix_list (pv 1) (pv 2) (fun _ _ => rfl))))) pss_nil)
      (pss_one (ps_set (i := 2) nd rfl (Or.inl rfl) (pe_op op_add (pv 2) pe_int))))))) pss_nil)
      (pss_cons (ps_for PassesOwn.never rfl (pi_tup (pv 3)) (pg_name (i := 5) nd rfl (Or.inl rfl)) (pss_cons (ps_asg (C8.pe_c g_law_first hr (by first | decide | exact Nat.le_refl _ | omega) (by rfl) (pa_cons (pv 5) (pa_cons (pv 1) (pa_cons (pv 2) pa_nil)))) (pg_tup rfl (pgs_cons (pg_name (i := 6) nd rfl (Or.inl rfl)) (pgs_cons (pg_name (i := 2) nd rfl (Or.inl rfl)) pgs_nil))))
      (pss_one (ps_if (pt_truth (pv 6) (by intro _; rfl)) (pss_one (ps_ret (pe_tup (pa_cons pe_bl (pa_cons (pv 2) pa_nil))))) pss_nil))))
      (pss_one (ps_ret (pe_tup (pa_cons pe_bl (pa_cons (pv 2) pa_nil))))))))), ?_⟩
    cases hp with
    | pat ha =>
      walk_at "go"
      refine g_ixT (SqT.of ha) rfl ?_
      walk_at "go"
      intro R hR
      exact q _ R (same_new hR) (by simp only [fs]; exact upd_same)
    | @work a x y ha =>
      have cut : cutV [.str "work", .int x, .int y] (some 1) (some 3) = [.int x, .int y] := rfl
      walk_at "go"
      refine g_ixT (SqT.of ha) rfl ?_
      walk_at "go"
      refine g_ixT (SqT.of ha) rfl ?_
      walk_at "go"
      refine g_ixT (SqT.of ha) rfl ?_
      walk_at "go"
      refine g_ixT (SqT.of ha) rfl ?_
      walk_at "go"
      refine ⟨a, _, rfl, SqT.of ha, (by show ¬ (HT.sIx 3 0 (some 1) = 0 ∧ HT.sIx 3 3 (some 3) = 3); decide), fun t1 ht1 => ?_⟩
      rw [cut]
      have s1 : Same H (upd H t1 (.tup [.int x, .int y])) := same_new ht1
      have e1 : upd H t1 (.tup [.int x, .int y]) t1 = some (.tup [.int x, .int y]) := upd_same
      have hL1 := s1 _ _ hL
      have ha1 := s1 _ _ ha
      generalize upd H t1 (.tup [.int x, .int y]) = H1 at s1 e1 hL1 ha1
      walk_at "go"
      refine g_len (.inl (SqL.of hL1)) ?_
      walk_at "go"
      rw [List.length_map]
      refine g_ite (fun hge => ?_) (fun hlt => ?_)
      · have gn := got_end (ds := ds) (u := u) (lo := x) (hi := y) (by omega)
        walk_at "go"
        intro R hR
        exact q _ R (s1.trans (same_new hR)) (by simp only [fs, gn]; exact upd_same)
      have hul : u < ds.length := by omega
      have hd : ds[u]? = some ds[u] := List.getElem?_eq_getElem hul
      generalize ds[u] = d0 at hd
      have hdl : atI (ds.map V.int) (u : Int) = some (.int d0) := at_of (j := u) rfl (by rw [List.getElem?_map, hd]; rfl)
      walk_at "go"
      refine g_ixT (SqT.of e1) rfl ?_
      walk_at "go"
      refine g_ixL (SqL.of hL1) hdl ?_
      walk_at "go"
      refine g_ite (fun h1 => ?_) (fun h1 => ?_)
      case refine_2 =>
        have gn := got_no (lo := x) (hi := y) hd (fun z => h1 z.1)
        walk_at "go"
        intro R hR
        exact q _ R (s1.trans (same_new hR)) (by simp only [fs, gn]; exact upd_same)
      walk_at "go"
      refine g_ixT (SqT.of e1) rfl ?_
      walk_at "go"
      refine g_iteN (fun h2 => ?_) (fun h2 => ?_)
      · have gn := got_no (lo := x) (hi := y) hd (fun z => h2 z.2)
        walk_at "go"
        intro R hR
        exact q _ R (s1.trans (same_new hR)) (by simp only [fs, gn]; exact upd_same)
      have gy := got_yes hd h1 h2
      walk_at "go"
      intro P1 hP1
      refine g_pairs ?_
      walk_at "go"
      intro T1 hT1
      have sT := (same_new (o := .dK []) hP1).trans (same_new (o := .tup []) hT1)
      refine g_pairs ?_
      walk_at "go"
      refine g_ixT (SqT.of (sT _ _ ha1)) rfl ?_
      walk_at "go"
      intro T2 hT2
      refine g_pairs0 ?_
      have sU := sT.trans (same_new (o := .tup []) hT2)
      have eP := same_new (o := .tup []) hT2 _ _ (same_new (o := .tup []) hT1 _ _ (upd_same (H := H1) (a := P1) (o := .dK [])))
      have eT := same_new (o := .tup []) hT2 _ _ (upd_same (H := upd H1 P1 (.dK [])) (a := T1) (o := .tup []))
      generalize upd (upd (upd H1 P1 (.dK [])) T1 (.tup [])) T2 (.tup []) = H2 at sU eP eT
      refine ⟨eP, [(.inr "work", .ref T1), (.inr "either", .ref T2)], rfl, (by show 2 ≤ 15; decide), P1, rfl, .inl ⟨_, .inl upd_same⟩, ?_⟩
      have sV : Same H1 (upd H2 P1 (.dK (mergeK [] [(.inr "work", .ref T1), (.inr "either", .ref T2)]))) := Wd.Same.mut sU hP1
      have eD : (upd H2 P1 (.dK (mergeK [] [(.inr "work", .ref T1), (.inr "either", .ref T2)]))) P1 = _ := upd_same
      have eTV : (upd H2 P1 (.dK (mergeK [] [(.inr "work", .ref T1), (.inr "either", .ref T2)]))) T1 = some (.tup []) := by rw [upd_ne (ne_of eT eP (fun z => nomatch z))]; exact eT
      generalize upd H2 P1 (.dK (mergeK [] [(.inr "work", .ref T1), (.inr "either", .ref T2)])) = H3 at sV eD eTV
      walk_at "go"
      refine g_ixT (SqT.of (sV _ _ ha1)) rfl ?_
      walk_at "go"
      intro T3 hT3
      have s3 := same_new (o := .tup []) hT3
      refine ⟨_, DGet.k (k := .inr "work") (s3 _ _ eD), ?_⟩
      have ev : valV (mergeK [] [((.inr "work" : Key), V.ref T1), (.inr "either", .ref T2)]) (.inr "work") = some (.ref T1) := rfl
      rw [ev]
      have sW := sV.trans s3
      have eTW := s3 _ _ eTV
      generalize upd H3 T3 (.tup []) = H4 at sW eTW
      show gName 3 (.ref T1) _ _ _
      walk_at "go"
      refine g_ixT (SqT.of (sW _ _ ha1)) rfl ?_
      walk_at "go"
      refine w_tup (xs := []) (fun i σ H' => ∃ (v5 v6 : Option V) (u1 : Nat), σ = [some (.ref a), some (.ref LA), some (.int u1), some (.ref T1), some (.ref t1), v5, v6] ∧ Same H4 H' ∧ fss ds ((([] : List Pl)).drop i) u1 = fs ds (.work x y) u) ?_ ?_ ?_ ?_
      · exact ⟨_, _, u + 1, rfl, fun _ _ h => h, by rw [List.drop_zero]; exact (by simp only [fs, gy, fss])⟩
      · rintro i σ H' _ ⟨v5, v6, u1, _, sm, _⟩
        exact SqT.of (sm _ _ eTW)
      · rintro i v σ H' hv _
        cases hv
      · rintro σ H' ⟨v5, v6, u1, rfl, sm, e1⟩
        have e2 : fs ds (.work x y) u = (false, u1) := by rw [← e1, show ([] : List V).length = ([] : List Pl).length from rfl, List.drop_length]; simp only [fss]
        walk_at "go"
        intro R2 hR2
        exact q _ R2 (((s1.trans sW).trans sm).trans (same_new hR2)) (by rw [e2]; exact upd_same)
    | @row a c vs ps' ha hc hps =>
      match d, ok, g_law_first with
      | 0, ok, _ => unfold okP at ok; exact ok.elim
      | d + 1, ok, g_law_first =>
      unfold okP at ok
      have ln := hps.len
      walk_at "go"
      refine g_ixT (SqT.of ha) rfl ?_
      walk_at "go"
      refine g_ixT (SqT.of ha) rfl ?_
      walk_at "go"
      refine g_ixT (SqT.of ha) rfl ?_
      walk_at "go"
      refine w_tup (xs := vs) (fun i σ H' => ∃ (v5 v6 : Option V) (u1 : Nat), σ = [some (.ref a), some (.ref LA), some (.int u1), some (.ref c), none, v5, v6] ∧ Same H H' ∧ fss ds ((ps').drop i) u1 = fs ds (.row ps') u) ?_ ?_ ?_ ?_
      · exact ⟨_, _, u, rfl, fun _ _ h => h, by rw [List.drop_zero]; exact (by simp only [fs])⟩
      · rintro i σ H' _ ⟨v5, v6, u1, _, sm, _⟩
        exact SqT.of (sm _ _ hc)
      · rintro i v σ H' hv ⟨v5, v6, u1, rfl, sm, e1⟩
        obtain ⟨q0, hq, pv⟩ := (hps).at hv
        have sN := (same_refl H).trans sm
        rw [drop_at hq, fss] at e1
        walk_at "go"
        refine ⟨v, q0, _, LA, ds, u1, rfl, PlA_keep (keepT_same sN) _ _ pv, okPs_at ok.2.2 hq, sN _ _ hL, fun H9 R s9 hR => ?_⟩
        walk_at "go"
        refine g_gtup (SqT.of hR) rfl ?_
        walk_at "go"
        generalize fs ds q0 u1 = r at e1 hR ⊢
        obtain ⟨bb, u2⟩ := r
        refine ⟨_, rfl, ?_⟩
        cases bb with
        | false =>
          walk_at "go"
          exact ⟨_, _, u2, rfl, sm.trans s9, e1⟩
        | true =>
          walk_at "go"
          intro R2 hR2
          have e2 : fs ds (.row ps') u = (true, u2) := e1.symm
          exact q _ R2 ((sN.trans s9).trans (same_new hR2)) (by rw [e2]; exact upd_same)
      · rintro σ H' ⟨v5, v6, u1, rfl, sm, e1⟩
        have e2 : fs ds (.row ps') u = (false, u1) := by rw [← e1, ln, List.drop_length]; simp only [fss]
        walk_at "go"
        intro R2 hR2
        exact q _ R2 (((same_refl H).trans sm).trans (same_new hR2)) (by rw [e2]; exact upd_same)
    | @either a c vs ps' ha hc hps =>
      match d, ok, g_law_first with
      | 0, ok, _ => unfold okP at ok; exact ok.elim
      | d + 1, ok, g_law_first =>
      unfold okP at ok
      have ln := hps.len
      walk_at "go"
      refine g_ixT (SqT.of ha) rfl ?_
      walk_at "go"
      refine g_ixT (SqT.of ha) rfl ?_
      walk_at "go"
      refine g_ixT (SqT.of ha) rfl ?_
      walk_at "go"
      refine g_ixT (SqT.of ha) rfl ?_
      walk_at "go"
      refine g_ixT (SqT.of ha) rfl ?_
      walk_at "go"
      refine g_len (.inr (SqT.of hc)) ?_
      walk_at "go"
      rw [ln]
      intro t1 ht1
      have s1 : Same H (upd H t1 (.tup [.int (0), .int ((ps'.length : Int) - 1)])) := same_new ht1
      have e1 : upd H t1 (.tup [.int (0), .int ((ps'.length : Int) - 1)]) t1 = some (.tup [.int (0), .int ((ps'.length : Int) - 1)]) := upd_same
      have hL1 := s1 _ _ hL
      have ha1 := s1 _ _ ha
      generalize upd H t1 (.tup [.int (0), .int ((ps'.length : Int) - 1)]) = H1 at s1 e1 hL1 ha1
      walk_at "go"
      refine g_len (.inl (SqL.of hL1)) ?_
      walk_at "go"
      rw [List.length_map]
      refine g_ite (fun hge => ?_) (fun hlt => ?_)
      · have gn := got_end (ds := ds) (u := u) (lo := (0)) (hi := ((ps'.length : Int) - 1)) (by omega)
        walk_at "go"
        intro R hR
        exact q _ R (s1.trans (same_new hR)) (by simp only [fs, gn]; exact upd_same)
      have hul : u < ds.length := by omega
      have hd : ds[u]? = some ds[u] := List.getElem?_eq_getElem hul
      generalize ds[u] = d0 at hd
      have hdl : atI (ds.map V.int) (u : Int) = some (.int d0) := at_of (j := u) rfl (by rw [List.getElem?_map, hd]; rfl)
      walk_at "go"
      refine g_ixT (SqT.of e1) rfl ?_
      walk_at "go"
      refine g_ixL (SqL.of hL1) hdl ?_
      walk_at "go"
      refine g_ite (fun h1 => ?_) (fun h1 => ?_)
      case refine_2 =>
        have gn := got_no (lo := (0)) (hi := ((ps'.length : Int) - 1)) hd (fun z => h1 z.1)
        walk_at "go"
        intro R hR
        exact q _ R (s1.trans (same_new hR)) (by simp only [fs, gn]; exact upd_same)
      walk_at "go"
      refine g_ixT (SqT.of e1) rfl ?_
      walk_at "go"
      refine g_iteN (fun h2 => ?_) (fun h2 => ?_)
      · have gn := got_no (lo := (0)) (hi := ((ps'.length : Int) - 1)) hd (fun z => h2 z.2)
        walk_at "go"
        intro R hR
        exact q _ R (s1.trans (same_new hR)) (by simp only [fs, gn]; exact upd_same)
      have gy : got ds u (0) ((ps'.length : Int) - 1) = some d0 := got_yes hd h1 h2
      have hi : d0.toNat < vs.length := by omega
      have hv0 : vs[d0.toNat]? = some vs[d0.toNat] := List.getElem?_eq_getElem hi
      obtain ⟨p0, hp0, pv⟩ := hps.at hv0
      have hc1 := s1 _ _ hc
      walk_at "go"
      intro P1 hP1
      refine g_pairs ?_
      walk_at "go"
      intro T1 hT1
      have sT := (same_new (o := .dK []) hP1).trans (same_new (o := .tup []) hT1)
      refine g_pairs ?_
      walk_at "go"
      refine g_ixT (SqT.of (sT _ _ ha1)) rfl ?_
      walk_at "go"
      refine g_ixT (SqT.of (sT _ _ ha1)) rfl ?_
      walk_at "go"
      refine g_ixL (SqL.of (sT _ _ hL1)) hdl ?_
      refine g_ixT (v := vs[d0.toNat]) (SqT.of (sT _ _ hc1)) (at_of (j := d0.toNat) (by omega) hv0) ?_
      walk_at "go"
      intro T2 hT2
      refine g_pairs0 ?_
      have sU := sT.trans (same_new (o := .tup [vs[d0.toNat]]) hT2)
      have eP := same_new (o := .tup [vs[d0.toNat]]) hT2 _ _ (same_new (o := .tup []) hT1 _ _ (upd_same (H := H1) (a := P1) (o := .dK [])))
      have eT := upd_same (H := upd (upd H1 P1 (.dK [])) T1 (.tup [])) (a := T2) (o := .tup [vs[d0.toNat]])
      generalize upd (upd (upd H1 P1 (.dK [])) T1 (.tup [])) T2 (.tup [vs[d0.toNat]]) = H2 at sU eP eT
      refine ⟨eP, [(.inr "work", .ref T1), (.inr "either", .ref T2)], rfl, (by show 2 ≤ 15; decide), P1, rfl, .inl ⟨_, .inl upd_same⟩, ?_⟩
      have sV : Same H1 (upd H2 P1 (.dK (mergeK [] [(.inr "work", .ref T1), (.inr "either", .ref T2)]))) := Wd.Same.mut sU hP1
      have eD : (upd H2 P1 (.dK (mergeK [] [(.inr "work", .ref T1), (.inr "either", .ref T2)]))) P1 = _ := upd_same
      have eTV : (upd H2 P1 (.dK (mergeK [] [(.inr "work", .ref T1), (.inr "either", .ref T2)]))) T2 = some (.tup [vs[d0.toNat]]) := by rw [upd_ne (ne_of eT eP (fun z => nomatch z))]; exact eT
      generalize upd H2 P1 (.dK (mergeK [] [(.inr "work", .ref T1), (.inr "either", .ref T2)])) = H3 at sV eD eTV
      walk_at "go"
      refine g_ixT (SqT.of (sV _ _ ha1)) rfl ?_
      walk_at "go"
      intro T3 hT3
      have s3 := same_new (o := .tup []) hT3
      refine ⟨_, DGet.k (k := .inr "either") (s3 _ _ eD), ?_⟩
      have ev : valV (mergeK [] [((.inr "work" : Key), V.ref T1), (.inr "either", .ref T2)]) (.inr "either") = some (.ref T2) := rfl
      rw [ev]
      have sW := sV.trans s3
      have eTW := s3 _ _ eTV
      generalize upd H3 T3 (.tup []) = H4 at sW eTW
      show gName 3 (.ref T2) _ _ _
      walk_at "go"
      refine g_ixT (SqT.of (sW _ _ ha1)) rfl ?_
      walk_at "go"
      refine w_tup (xs := [vs[d0.toNat]]) (fun i σ H' => ∃ (v5 v6 : Option V) (u1 : Nat), σ = [some (.ref a), some (.ref LA), some (.int u1), some (.ref T2), some (.ref t1), v5, v6] ∧ Same H4 H' ∧ fss ds (([p0]).drop i) u1 = fs ds (.either ps') u) ?_ ?_ ?_ ?_
      · exact ⟨_, _, u + 1, rfl, fun _ _ h => h, by rw [List.drop_zero]; exact (by simp only [fs, gy, fss]; rw [fsAt_at ds hp0]; exact seqB_end _)⟩
      · rintro i σ H' _ ⟨v5, v6, u1, _, sm, _⟩
        exact SqT.of (sm _ _ eTW)
      · rintro i v σ H' hv ⟨v5, v6, u1, rfl, sm, e1⟩
        obtain ⟨q0, hq, pv⟩ := (PlAs.cons pv .nil).at hv
        have sN := Same.trans (s1.trans sW) sm
        rw [drop_at hq, fss] at e1
        walk_at "go"
        refine ⟨v, q0, _, LA, ds, u1, rfl, PlA_keep (keepT_same sN) _ _ pv, okPs_at (show okPs d l [p0] from ⟨okPs_at ok.2.2 hp0, trivial⟩) hq, sN _ _ hL, fun H9 R s9 hR => ?_⟩
        walk_at "go"
        refine g_gtup (SqT.of hR) rfl ?_
        walk_at "go"
        generalize fs ds q0 u1 = r at e1 hR ⊢
        obtain ⟨bb, u2⟩ := r
        refine ⟨_, rfl, ?_⟩
        cases bb with
        | false =>
          walk_at "go"
          exact ⟨_, _, u2, rfl, sm.trans s9, e1⟩
        | true =>
          walk_at "go"
          intro R2 hR2
          have e2 : fs ds (.either ps') u = (true, u2) := e1.symm
          exact q _ R2 ((sN.trans s9).trans (same_new hR2)) (by rw [e2]; exact upd_same)
      · rintro σ H' ⟨v5, v6, u1, rfl, sm, e1⟩
        have e2 : fs ds (.either ps') u = (false, u1) := by rw [← e1, show [vs[d0.toNat]].length = [p0].length from rfl, List.drop_length]; simp only [fss]
        walk_at "go"
        intro R2 hR2
        exact q _ R2 ((Same.trans (s1.trans sW) sm).trans (same_new hR2)) (by rw [e2]; exact upd_same)
    | @loop a x y w0 p ha hw =>
      match d, ok, g_law_first with
      | 0, ok, _ => unfold okP at ok; exact ok.elim
      | d + 1, ok, g_law_first =>
      match l, ok with
      | 0, ok => unfold okP at ok; exact ok.elim
      | l + 1, ok =>
      have cut : cutV [.str "loop", .int x, .int y, w0] (some 1) (some 3) = [.int x, .int y] := rfl
      unfold okP at ok
      walk_at "go"
      refine g_ixT (SqT.of ha) rfl ?_
      walk_at "go"
      refine g_ixT (SqT.of ha) rfl ?_
      walk_at "go"
      refine g_ixT (SqT.of ha) rfl ?_
      walk_at "go"
      refine g_ixT (SqT.of ha) rfl ?_
      walk_at "go"
      refine ⟨a, _, rfl, SqT.of ha, (by show ¬ (HT.sIx 4 0 (some 1) = 0 ∧ HT.sIx 4 4 (some 3) = 4); decide), fun t1 ht1 => ?_⟩
      rw [cut]
      have s1 : Same H (upd H t1 (.tup [.int (x), .int (y)])) := same_new ht1
      have e1 : upd H t1 (.tup [.int (x), .int (y)]) t1 = some (.tup [.int (x), .int (y)]) := upd_same
      have hL1 := s1 _ _ hL
      have ha1 := s1 _ _ ha
      generalize upd H t1 (.tup [.int (x), .int (y)]) = H1 at s1 e1 hL1 ha1
      walk_at "go"
      refine g_len (.inl (SqL.of hL1)) ?_
      walk_at "go"
      rw [List.length_map]
      refine g_ite (fun hge => ?_) (fun hlt => ?_)
      · have gn := got_end (ds := ds) (u := u) (lo := (x)) (hi := (y)) (by omega)
        walk_at "go"
        intro R hR
        exact q _ R (s1.trans (same_new hR)) (by simp only [fs, gn]; exact upd_same)
      have hul : u < ds.length := by omega
      have hd : ds[u]? = some ds[u] := List.getElem?_eq_getElem hul
      generalize ds[u] = d0 at hd
      have hdl : atI (ds.map V.int) (u : Int) = some (.int d0) := at_of (j := u) rfl (by rw [List.getElem?_map, hd]; rfl)
      walk_at "go"
      refine g_ixT (SqT.of e1) rfl ?_
      walk_at "go"
      refine g_ixL (SqL.of hL1) hdl ?_
      walk_at "go"
      refine g_ite (fun h1 => ?_) (fun h1 => ?_)
      case refine_2 =>
        have gn := got_no (lo := (x)) (hi := (y)) hd (fun z => h1 z.1)
        walk_at "go"
        intro R hR
        exact q _ R (s1.trans (same_new hR)) (by simp only [fs, gn]; exact upd_same)
      walk_at "go"
      refine g_ixT (SqT.of e1) rfl ?_
      walk_at "go"
      refine g_iteN (fun h2 => ?_) (fun h2 => ?_)
      · have gn := got_no (lo := (x)) (hi := (y)) hd (fun z => h2 z.2)
        walk_at "go"
        intro R hR
        exact q _ R (s1.trans (same_new hR)) (by simp only [fs, gn]; exact upd_same)
      have gy : got ds u (x) (y) = some d0 := got_yes hd h1 h2
      walk_at "go"
      intro P1 hP1
      refine g_pairs ?_
      walk_at "go"
      intro T1 hT1
      have sT := (same_new (o := .dK []) hP1).trans (same_new (o := .tup []) hT1)
      refine g_pairs ?_
      walk_at "go"
      refine g_ixT (SqT.of (sT _ _ ha1)) rfl ?_
      walk_at "go"
      intro T2 hT2
      refine g_pairs0 ?_
      have sU := sT.trans (same_new (o := .tup []) hT2)
      have eP := same_new (o := .tup []) hT2 _ _ (same_new (o := .tup []) hT1 _ _ (upd_same (H := H1) (a := P1) (o := .dK [])))
      have eT := upd_same (H := upd (upd H1 P1 (.dK [])) T1 (.tup [])) (a := T2) (o := .tup [])
      generalize upd (upd (upd H1 P1 (.dK [])) T1 (.tup [])) T2 (.tup []) = H2 at sU eP eT
      refine ⟨eP, [(.inr "work", .ref T1), (.inr "either", .ref T2)], rfl, (by show 2 ≤ 15; decide), P1, rfl, .inl ⟨_, .inl upd_same⟩, ?_⟩
      have sV : Same H1 (upd H2 P1 (.dK (mergeK [] [(.inr "work", .ref T1), (.inr "either", .ref T2)]))) := Wd.Same.mut sU hP1
      have eD : (upd H2 P1 (.dK (mergeK [] [(.inr "work", .ref T1), (.inr "either", .ref T2)]))) P1 = _ := upd_same
      have eTV : (upd H2 P1 (.dK (mergeK [] [(.inr "work", .ref T1), (.inr "either", .ref T2)]))) T2 = some (.tup []) := by rw [upd_ne (ne_of eT eP (fun z => nomatch z))]; exact eT
      generalize upd H2 P1 (.dK (mergeK [] [(.inr "work", .ref T1), (.inr "either", .ref T2)])) = H3 at sV eD eTV
      walk_at "go"
      refine g_ixT (SqT.of (sV _ _ ha1)) rfl ?_
      walk_at "go"
      intro T3 hT3
      have s3 := same_new (o := .tup []) hT3
      refine ⟨_, DGet.k (k := .inr "loop") (s3 _ _ eD), ?_⟩
      have ev : valV (mergeK [] [((.inr "work" : Key), V.ref T1), (.inr "either", .ref T2)]) (.inr "loop") = none := rfl
      rw [ev]
      have sW := sV.trans s3
      generalize upd H3 T3 (.tup []) = H4 at sW
      show gName 3 (.ref T3) _ _ _
      have plu := PlAs.rep hw d0.toNat
      have lnu := plu.len
      have oku := okPs_rep ok.2.2.2 d0.toNat
      walk_at "go"
      refine g_ixT (SqT.of (sW _ _ ha1)) rfl ?_
      walk_at "go"
      refine g_ixT (SqT.of (sW _ _ ha1)) rfl ?_
      walk_at "go"
      intro p1 h1'
      have t1' : (upd H4 p1 (.tup [w0])) p1 = some (.tup [w0]) := upd_same
      have s4 := sW.trans (same_new (o := .tup [w0]) h1')
      generalize upd H4 p1 (.tup [w0]) = H5 at s4 t1'
      walk_at "go"
      refine g_ixL (SqL.of (s4 _ _ hL1)) hdl ?_
      refine ⟨p1, d0, [w0], rfl, rfl, SqT.of t1', List.cons_ne_nil _ _, by omega, by omega, by show 1 ≤ 1000; decide, fun k1 => ?_, fun k1 p3 h3 => ?_⟩
      · subst k1
        have t1' : H5 p1 = some (.tup (List.replicate (1 : Int).toNat [w0]).flatten) := t1'
        walk_at "go"
        refine w_tup (xs := (List.replicate (1 : Int).toNat [w0]).flatten) (fun i σ H' => ∃ (v5 v6 : Option V) (u1 : Nat), σ = [some (.ref a), some (.ref LA), some (.int u1), some (.ref p1), some (.ref t1), v5, v6] ∧ Same H5 H' ∧ fss ds (((List.replicate (1 : Int).toNat p)).drop i) u1 = fs ds (.loop x y p) u) ?_ ?_ ?_ ?_
        · exact ⟨_, _, u + 1, rfl, fun _ _ h => h, by rw [List.drop_zero]; exact (by simp only [fs, gy]; exact (iter_fss _ _ _ _).symm)⟩
        · rintro i σ H' _ ⟨v5, v6, u1, _, sm, _⟩
          exact SqT.of (sm _ _ t1')
        · rintro i v σ H' hv ⟨v5, v6, u1, rfl, sm, e1⟩
          obtain ⟨q0, hq, pv⟩ := (plu).at hv
          have sN := Same.trans (s1.trans s4) sm
          rw [drop_at hq, fss] at e1
          walk_at "go"
          refine ⟨v, q0, _, LA, ds, u1, rfl, PlA_keep (keepT_same sN) _ _ pv, okPs_at oku hq, sN _ _ hL, fun H9 R s9 hR => ?_⟩
          walk_at "go"
          refine g_gtup (SqT.of hR) rfl ?_
          walk_at "go"
          generalize fs ds q0 u1 = r at e1 hR ⊢
          obtain ⟨bb, u2⟩ := r
          refine ⟨_, rfl, ?_⟩
          cases bb with
          | false =>
            walk_at "go"
            exact ⟨_, _, u2, rfl, sm.trans s9, e1⟩
          | true =>
            walk_at "go"
            intro R2 hR2
            have e2 : fs ds (.loop x y p) u = (true, u2) := e1.symm
            exact q _ R2 ((sN.trans s9).trans (same_new hR2)) (by rw [e2]; exact upd_same)
        · rintro σ H' ⟨v5, v6, u1, rfl, sm, e1⟩
          have e2 : fs ds (.loop x y p) u = (false, u1) := by rw [← e1, lnu, List.drop_length]; simp only [fss]
          walk_at "go"
          intro R2 hR2
          exact q _ R2 ((Same.trans (s1.trans s4) sm).trans (same_new hR2)) (by rw [e2]; exact upd_same)
      · have s5 := s4.trans (same_new (o := .tup (List.replicate d0.toNat [w0]).flatten) h3)
        have t3 := upd_same (H := H5) (a := p3) (o := .tup (List.replicate d0.toNat [w0]).flatten)
        generalize upd H5 p3 (.tup (List.replicate d0.toNat [w0]).flatten) = H6 at s5 t3
        walk_at "go"
        refine w_tup (xs := (List.replicate d0.toNat [w0]).flatten) (fun i σ H' => ∃ (v5 v6 : Option V) (u1 : Nat), σ = [some (.ref a), some (.ref LA), some (.int u1), some (.ref p3), some (.ref t1), v5, v6] ∧ Same H6 H' ∧ fss ds (((List.replicate d0.toNat p)).drop i) u1 = fs ds (.loop x y p) u) ?_ ?_ ?_ ?_
        · exact ⟨_, _, u + 1, rfl, fun _ _ h => h, by rw [List.drop_zero]; exact (by simp only [fs, gy]; exact (iter_fss _ _ _ _).symm)⟩
        · rintro i σ H' _ ⟨v5, v6, u1, _, sm, _⟩
          exact SqT.of (sm _ _ t3)
        · rintro i v σ H' hv ⟨v5, v6, u1, rfl, sm, e1⟩
          obtain ⟨q0, hq, pv⟩ := (plu).at hv
          have sN := Same.trans (s1.trans s5) sm
          rw [drop_at hq, fss] at e1
          walk_at "go"
          refine ⟨v, q0, _, LA, ds, u1, rfl, PlA_keep (keepT_same sN) _ _ pv, okPs_at oku hq, sN _ _ hL, fun H9 R s9 hR => ?_⟩
          walk_at "go"
          refine g_gtup (SqT.of hR) rfl ?_
          walk_at "go"
          generalize fs ds q0 u1 = r at e1 hR ⊢
          obtain ⟨bb, u2⟩ := r
          refine ⟨_, rfl, ?_⟩
          cases bb with
          | false =>
            walk_at "go"
            exact ⟨_, _, u2, rfl, sm.trans s9, e1⟩
          | true =>
            walk_at "go"
            intro R2 hR2
            have e2 : fs ds (.loop x y p) u = (true, u2) := e1.symm
            exact q _ R2 ((sN.trans s9).trans (same_new hR2)) (by rw [e2]; exact upd_same)
        · rintro σ H' ⟨v5, v6, u1, rfl, sm, e1⟩
          have e2 : fs ds (.loop x y p) u = (false, u1) := by rw [← e1, lnu, List.drop_length]; simp only [fss]
          walk_at "go"
          intro R2 hR2
          exact q _ R2 ((Same.trans (s1.trans s5) sm).trans (same_new hR2)) (by rw [e2]; exact upd_same)
theorem ok_first (T : Txt K mg) {f : Addr} {fd : FuncData} (D : C8.Def K mg "_law_first" s_law_first f fd) (b : Binds K fd ["_law_plan_here", "_law_delays_here", "_law_place"] []) : ∀ n : Nat, C8.Cal P w K mg base (n + 1) "_law_first" (sp_first K n) []
  | 0 => ⟨f, fd, ["_law_plan_here", "_law_delays_here", "_law_place"], [], ⟨fun _ _ _ _ h => h.elim, fun _ _ _ _ _ _ _ _ _ _ _ _ _ h => h.elim⟩, D.mgf, D.kp, b, .nil⟩
  | n + 1 => first_step T D b (ok_first T D b n)
end
end K04
namespace K04
open PySem PySem.Spec PyProof.Rows L2 Wd
section
variable {P : Program} {w : World} {K : PySem.W.Frag} {mg : Str → Option Value} {base : Heap}
theorem cut_ints (ns : List Int) (lo hi : Option Int) : ∃ ms : List Int, cutV (ns.map V.int) lo hi = ms.map V.int ∧ ms.length ≤ ns.length := by
  unfold cutV
  refine ⟨List.take _ (List.drop _ ns), by rw [List.map_take, List.map_drop], ?_⟩
  rw [List.length_take, List.length_drop]
  omega
abbrev s_law_spoilt : Stmt := top 37
theorem sc_law_spoilt : FnScope ["_law_state", "_law_delays_here", "_law_way", "_law_at"] ["_law_state", "_law_delays_here"] (C8.fnScope s_law_spoilt) := C8.fnScope_by (by decide +kernel)
def sp_spoilt (K : PySem.W.Frag) : Sp := fun vs H Q _ => ∃ (B : Hp) (S LA : Addr) (ds : List Int), vs = [.ref S, .ref LA] ∧ Dst K B H S ∧ H LA = some (.lst (ds.map V.int)) ∧ LA ≠ S ∧ ds.length ≤ 60000 ∧ ∀ H' L (ds' : List Int), Frm S H H' → Dst K B H' S → H' L = some (.lst (ds'.map V.int)) → L ≠ S → ds'.length ≤ 2 * ds.length + 3 → Q (.ref L) H'
theorem ok_spoilt (T : Txt K mg) {f : Addr} {fd : FuncData} (D : C8.Def K mg "_law_spoilt" s_law_spoilt f fd) (b : Binds K fd ["_law_state", "_law_delays_here"] []) (g_law_drawn : C8.Cal P w K mg base 1 "_law_drawn" (sp_drawn K) []) (g_law_far : C8.Cal P w K mg base 2 "_law_far" (sp_far K) []) : C8.Cal P w K mg base 3 "_law_spoilt" (sp_spoilt K) [] := by
  refine C8.cal0 D b .nil sc_law_spoilt (fun vs H Q E h => ?_) fun cdv A outer s H vs Q E hr h => ?_
  · obtain ⟨B, S, LA, ds, rfl, _⟩ := h; rfl
  · obtain ⟨B, S, LA, ds, rfl, d, hL, ne, hz, q⟩ := h
    have nd := sc_law_spoilt.nd
    refine ⟨_, (pss_cons (ps_set (i := 2) nd rfl (Or.inl rfl) (C8.pe_c g_law_drawn hr (by first | decide | exact Nat.le_refl _ | omega) (by rfl) (pa_cons (pv 0) (pa_cons pe_int pa_nil))))
      (pss_cons (ps_set (i := 3) nd rfl (Or.inl rfl) (C8.pe_c g_law_drawn hr (by first | decide | exact Nat.le_refl _ | omega) (by rfl) (pa_cons (pv 0) (pa_cons (pe_op op_add (pe_callB (r := Wd.rLen K) call_len1 (by rfl) T.n_len PySem.boot_len (pa_cons (pv 1) pa_nil)) pe_int) pa_nil))))
      (pss_cons (ps_if (pt_cmpR op_eq (pv 2) pe_int (nomark _)) (pss_one (ps_ret (pe_slice (r := rSlL K) sl_list (pv 1) po_none (po_some (pv 3))))) pss_nil)
      (pss_cons (ps_if (pt_cmpR op_eq (pv 2) pe_int (nomark _)) (pss_one (ps_ret (pe_op op_cat (pv 1) (pe_op op_rep (pe_lst (pa_cons (C8.pe_c g_law_drawn hr (by first | decide | exact Nat.le_refl _ | omega) (by rfl) (pa_cons (pv 0) (pa_cons pe_int pa_nil))) pa_nil)) (pe_op op_add pe_int (C8.pe_c g_law_drawn hr (by first | decide | exact Nat.le_refl _ | omega) (by rfl) (pa_cons (pv 0) (pa_cons pe_int pa_nil)))))))) pss_nil)
      (pss_one (ps_ret (pe_op op_cat (pe_op op_cat (pe_slice (r := rSlL K) sl_list (pv 1) po_none (po_some (pv 3))) (pe_lst (pa_cons (C8.pe_c g_law_far hr (by first | decide | exact Nat.le_refl _ | omega) (by rfl) (pa_cons (pv 0) (pa_cons (pe_ix (r := rIxL K) ix_list (pe_lst (pa_cons pe_int (pa_cons pe_int (pa_cons pe_int pa_nil)))) (C8.pe_c g_law_drawn hr (by first | decide | exact Nat.le_refl _ | omega) (by rfl) (pa_cons (pv 0) (pa_cons pe_int pa_nil))) (fun _ _ => rfl)) pa_nil))) pa_nil))) (pe_slice (r := rSlL K) sl_list (pv 1) (po_some (pe_op op_add (pv 3) (pe_callTy call_intB (by rfl) T.n_int (by decide +kernel) (pa_cons (pe_cmpR op_eq (pv 2) pe_int (nomark _)) pa_nil)))) po_none)))))))), ?_⟩
    walk_at "go"
    refine use_drawn (n := 4) d (by decide) (by decide) fun H1 x f1 d1 x0 x1 => ?_
    have hL1 := f1 _ _ ne hL
    walk_at "go"
    refine g_len (.inl (SqL.of hL1)) ?_
    walk_at "go"
    rw [List.length_map]
    refine use_drawn (n := (ds.length : Int) + 1) d1 (by omega) (by omega) fun H2 t f2 d2 t0 t1 => ?_
    have hL2 := f2 _ _ ne hL1
    have f02 := f1.trans f2
    walk_at "go"
    refine g_ite (fun hx => ?_) (fun hx => ?_)
    · walk_at "go"
      refine g_slL (SqL.of hL2) fun p hp => ?_
      walk_at "go"
      obtain ⟨ms, e, hm⟩ := cut_ints ds none (some t)
      exact q _ p ms (f02.trans (.new hp)) (d2.same (same_new hp)) (by rw [e]; exact upd_same) (d2.ne hp) (by omega)
    walk_at "go"
    refine g_ite (fun hy => ?_) (fun hy => ?_)
    · walk_at "go"
      refine use_drawn (n := 3) d2 (by decide) (by decide) fun H3 a f3 d3 a0 a1 => ?_
      walk_at "go"
      intro l hl
      have d4 := d3.same (same_new (o := .lst [.int a]) hl)
      walk_at "go"
      refine use_drawn (n := 3) d4 (by decide) (by decide) fun H5 c f5 d5 c0 c1 => ?_
      walk_at "go"
      refine ⟨l, 1 + c, [.int a], rfl, rfl, f5 _ _ (d3.ne hl) upd_same, by omega, by omega, ?_, fun p hp => ?_⟩
      · rw [sizeLine_eq, List.length_singleton]; omega
      have f5' : Frm S H2 H5 := (f3.trans (.new hl)).trans f5
      rw [List.flatten_replicate_singleton]
      have d6 := d5.same (same_new (o := .lst (List.replicate (1 + c).toNat (V.int a))) hp)
      have f6 : Frm S H2 _ := f5'.trans (.new (o := .lst (List.replicate (1 + c).toNat (V.int a))) hp)
      refine ⟨LA, p, ds.map V.int, _, rfl, rfl, f6 _ _ ne hL2, upd_same, ?_, fun p2 hp2 => ?_⟩
      · rw [sizeLine_eq, List.length_map, List.length_replicate]; omega
      walk_at "go"
      refine q _ p2 (ds ++ List.replicate (1 + c).toNat a) ((f02.trans f6).trans (.new hp2)) (d6.same (same_new hp2)) (by rw [List.map_append, List.map_replicate]; exact upd_same) (d6.ne hp2) ?_
      rw [List.length_append, List.length_replicate]; omega
    walk_at "go"
    refine g_slL (SqL.of hL2) fun p1 hp1 => ?_
    obtain ⟨ms, e, hm⟩ := cut_ints ds none (some t)
    rw [e]
    have d3 := d2.same (same_new (o := .lst (ms.map V.int)) hp1)
    have f3 : Frm S H2 _ := .new (o := .lst (ms.map V.int)) hp1
    have n1 := d2.ne hp1
    have h1 := upd_same (H := H2) (a := p1) (o := .lst (ms.map V.int))
    generalize upd H2 p1 (.lst (ms.map V.int)) = H3 at d3 f3 h1
    walk_at "go"
    intro l hl
    have d4 := d3.same (same_new (o := .lst [.int 1, .int 9, .int 1000]) hl)
    walk_at "go"
    refine use_drawn (n := 3) d4 (by decide) (by decide) fun H5 v f5 d5 v0 v1 => ?_
    have h5 := f5 _ _ (d3.ne hl) upd_same
    have f35 : Frm S H3 H5 := Frm.trans (.new hl) f5
    obtain ⟨y, hy, hy2⟩ := atI_mem (xs := [.int 1, .int 9, .int 1000]) v0 v1
    refine g_ixL (SqL.of h5) hy2 ?_
    obtain ⟨z, rfl⟩ : ∃ z, y = V.int z := by
      simp only [List.mem_cons, List.not_mem_nil, or_false] at hy
      rcases hy with rfl | rfl | rfl <;> exact ⟨_, rfl⟩
    walk_at "go"
    refine ⟨_, S, z, rfl, d5, fun H6 u f6 d6 _ => ?_⟩
    walk_at "go"
    intro l3 hl3
    have d7 := d6.same (same_new (o := .lst [.int u]) hl3)
    have f37 : Frm S H3 _ := (f35.trans f6).trans (.new (o := .lst [.int u]) hl3)
    refine ⟨p1, l3, _, _, rfl, rfl, f37 _ _ n1 h1, upd_same, ?_, fun p4 hp4 => ?_⟩
    · rw [sizeLine_eq, List.length_map, List.length_singleton]; omega
    have d8 := d7.same (same_new (o := .lst (ms.map V.int ++ [.int u])) hp4)
    have f38 : Frm S H3 _ := f37.trans (.new (o := .lst (ms.map V.int ++ [.int u])) hp4)
    have h8 := upd_same (H := upd H6 l3 (.lst [.int u])) (a := p4) (o := .lst (ms.map V.int ++ [.int u]))
    have n8 := d7.ne hp4
    generalize upd (upd H6 l3 (.lst [.int u])) p4 (.lst (ms.map V.int ++ [.int u])) = H8 at d8 f38 h8
    have f28 := f3.trans f38
    walk_at "go"
    refine g_slL (SqL.of (f28 _ _ ne hL2)) fun p5 hp5 => ?_
    obtain ⟨ms2, e2, hm2⟩ := cut_ints ds (some (t + if decide (x = 2) = true then 1 else 0)) none
    rw [e2]
    have d9 := d8.same (same_new (o := .lst (ms2.map V.int)) hp5)
    have f9 : Frm S H8 _ := .new (o := .lst (ms2.map V.int)) hp5
    refine ⟨p4, p5, _, _, rfl, rfl, f9 _ _ n8 h8, upd_same, ?_, fun p6 hp6 => ?_⟩
    · rw [sizeLine_eq, List.length_append, List.length_map, List.length_map, List.length_singleton]; omega
    walk_at "go"
    refine q _ p6 (ms ++ [u] ++ ms2) (((f02.trans f28).trans f9).trans (.new hp6)) (d9.same (same_new hp6)) (by rw [List.map_append, List.map_append]; exact upd_same) (d9.ne hp6) ?_
    rw [List.length_append, List.length_append, List.length_singleton]; omega
end
end K04
namespace K04
open PySem PySem.Spec PyProof.Rows L2 Wd
/-- the refusal BadDelays as an except clause looks at it -/
structure TxtE (K : PySem.W.Frag) (mg : Str → Option Value) (CB CD : Addr) : Prop where
  n_isinstance : mg "isinstance" = none
  n_ValueError : mg "ValueError" = none
  dog : PySem.W.exmOne K (.ref CB) (.ref CD) = some true
  exc : ExcC K CB
  xf : XfC K CB
  val : PySem.W.kitOne K (.ref CB) (.type "ValueError") = some true
  own : PySem.W.kitOne K (.ref CB) (.ref CB) = some true
  g_BadBeat : ∃ C, mg "BadBeat" = some (.ref C) ∧ PySem.W.kitOne K (.ref CB) (.ref C) = some false
  g_BadPlan : ∃ C, mg "BadPlan" = some (.ref C) ∧ PySem.W.kitOne K (.ref CB) (.ref C) = some false
  g_BadTasks : ∃ C, mg "BadTasks" = some (.ref C) ∧ PySem.W.kitOne K (.ref CB) (.ref C) = some false
  g_BadWindow : ∃ C, mg "BadWindow" = some (.ref C) ∧ PySem.W.kitOne K (.ref CB) (.ref C) = some false
  g_BadWorks : ∃ C, mg "BadWorks" = some (.ref C) ∧ PySem.W.kitOne K (.ref CB) (.ref C) = some false
  g_NoPats : ∃ C, mg "NoPats" = some (.ref C) ∧ PySem.W.kitOne K (.ref CB) (.ref C) = some false
  g_NoPlace : ∃ C, mg "NoPlace" = some (.ref C) ∧ PySem.W.kitOne K (.ref CB) (.ref C) = some false
  g_TooMuch : ∃ C, mg "TooMuch" = some (.ref C) ∧ PySem.W.kitOne K (.ref CB) (.ref C) = some false
theorem kit_no {K : PySem.W.Frag} {t c : Value} {cs : List Value} (h : PySem.W.kitOne K t c = some false) (h2 : PySem.W.kitAny K t cs = some false) : PySem.W.kitAny K t (c :: cs) = some false :=
  kitAny_cons h (fun _ => h2) (fun z => nomatch z)
def tellB (o : Option Nat) : V := match o with
  | none => .non
  | some n => .int n
section
variable {P : Program} {w : World} {K : PySem.W.Frag} {mg : Str → Option Value} {base : Heap} {CR CB CD fI : Addr}
abbrev s_law_told : Stmt := top 38
theorem sc_law_told : FnScope ["_law_plan_here", "_law_delays_here", "e", "_law_other"] ["_law_plan_here", "_law_delays_here"] (C8.fnScope s_law_told) := C8.fnScope_by (by decide +kernel)
def sp_told (K : PySem.W.Frag) : Sp := fun vs H Q _ => ∃ (v : V) (p : Pl) (LA : Addr) (ds : List Int), vs = [v, .ref LA] ∧ PlA H v p ∧ okP 4 2 p ∧ cnt p ≤ 30 ∧ H LA = some (.lst (ds.map V.int)) ∧ ds.length < 10 ^ 6 ∧ ∀ H', Same H H' → Q (tellB (bad ds p)) H'
theorem ok_told (T : TxtP K mg) (B : TxtB K mg CB CD fI) (X : TxtE K mg CB CD) {f : Addr} {fd : FuncData} (D : C8.Def K mg "_law_told" s_law_told f fd) (b : Binds K fd ["_law_plan_here", "_law_delays_here"] []) (g_run_plan : CalX P w K mg base 9 "run_plan" (sp_run_plan CB)) : C8.Cal P w K mg base 10 "_law_told" (sp_told K) [] := by
  refine C8.cal0 D b .nil sc_law_told (fun vs H Q E h => ?_) fun cdv A outer s H vs Q E hr h => ?_
  · obtain ⟨v, p, LA, ds, rfl, _⟩ := h; rfl
  · obtain ⟨v, p, LA, ds, rfl, hp, ok, hc, hL, hz, q⟩ := h
    have nd := sc_law_told.nd
    obtain ⟨C0, m0, k0⟩ := X.g_BadBeat
    obtain ⟨C1, m1, k1⟩ := X.g_BadPlan
    obtain ⟨C2, m2, k2⟩ := X.g_BadTasks
    obtain ⟨C3, m3, k3⟩ := X.g_BadWindow
    obtain ⟨C4, m4, k4⟩ := X.g_BadWorks
    obtain ⟨C5, m5, k5⟩ := X.g_NoPats
    obtain ⟨C6, m6, k6⟩ := X.g_NoPlace
    obtain ⟨C7, m7, k7⟩ := X.g_TooMuch
    refine ⟨_, pss_cons (ps_try_as (i := 2) (c := .ref CD) (tb := fun W => tDrop (tCallS (sp_run_plan CB) (WE W) (tCons (tVar 0) (tCons (tVar 1) tNil)))) (Wout := fun _ _ _ _ => False) rfl rfl nd rfl rfl ⟨rfl, by decide, .inl B.gD⟩ takes0
      (fun W pn xe tk _ => pss_one (ps_expr (pe_cX g_run_plan hr (by decide) (by rfl) (fun σ => passAt tk σ) (pa_cons (pv 0) (pa_cons (pv 1) pa_nil))))) (fun a oe cls d pn hz hf => (pss_cons (ps_set (i := 3) nd rfl (Or.inl rfl) (pe_callB (r := rIsT3 K cls d a) (call_isT3 hz hf) (by rfl) T.n_isinstance (by decide +kernel) (pa_cons (pv 2) (pa_cons (pe_tup (pa_cons (pe_glob (v := .ref C0) rfl m0 rfl) (pa_cons (pe_glob (v := .ref C1) rfl m1 rfl) (pa_cons (pe_glob (v := .ref C2) rfl m2 rfl) (pa_cons (pe_glob (v := .ref C3) rfl m3 rfl) (pa_cons (pe_glob (v := .ref C4) rfl m4 rfl) (pa_cons (pe_glob (v := .ref C5) rfl m5 rfl) (pa_cons (pe_glob (v := .ref C6) rfl m6 rfl) (pa_cons (pe_glob (v := .ref C7) rfl m7 rfl) pa_nil))))))))) pa_nil))))
      (pss_one (ps_ret (pe_ifExp (PW.pt (pw_and (pt_val (pe_callB (r := rIsE3 K cls d a) (call_isE3 hz hf) (by rfl) T.n_isinstance (by decide +kernel) (pa_cons (pv 2) (pa_cons (pe_glob (v := .ref CB) rfl B.gB rfl) pa_nil)))) (pw_and (pt_val (pe_callB (r := rIsE3 K cls d a) (call_isE3 hz hf) (by rfl) T.n_isinstance (by decide +kernel) (pa_cons (pv 2) (pa_cons (pe_bltn (v := .ty "ValueError") (by rfl) X.n_ValueError (by decide +kernel) rfl) pa_nil)))) (pw_and1 (pt_not (pt_val (pv 3))))))) (pe_xf X.xf B.na hz hf (pv 2)) (pe_op op_sub pe_int pe_int))))))) (pss_one (ps_ret pe_non)), ?_⟩
    walk_at "go"
    refine ⟨v, p, LA, ds, rfl, hp, ok, hc, hL, hz, fun hb v' H' s' => ?_, fun n hb H' x s' hx => ?_⟩
    · walk_at "go"
      rw [hb] at q
      exact q H' s'
    · refine ⟨true, X.dog, fun _ a ha => ?_, fun z => nomatch z⟩
      walk_at "go"
      intro tp htp
      have hx' := same_new (o := .tup [.ref C0, .ref C1, .ref C2, .ref C3, .ref C4, .ref C5, .ref C6, .ref C7]) htp _ _ hx
      have hd : ∀ dd, some x = some dd → ∃ fs, (upd H' tp (.tup [.ref C0, .ref C1, .ref C2, .ref C3, .ref C4, .ref C5, .ref C6, .ref C7])) dd = some (.xd fs) := fun dd e => by
        cases e; exact ⟨_, hx'⟩
      refine ⟨CB, tp, _, [.ref C0, .ref C1, .ref C2, .ref C3, .ref C4, .ref C5, .ref C6, .ref C7], false, rfl, hd, X.exc, rfl, upd_same,
        .cons (.own _) (.cons (.own _) (.cons (.own _) (.cons (.own _) (.cons (.own _) (.cons (.own _) (.cons (.own _) (.cons (.own _) .nil))))))), kit_no k0 (kit_no k1 (kit_no k2 (kit_no k3 (kit_no k4 (kit_no k5 (kit_no k6 (kit_no k7 kitAny_nil))))))), ?_⟩
      walk_at "go"
      refine ⟨CB, .ref CB, .ref CB, true, rfl, hd, X.exc, rfl, fun u r => r, X.own, ?_⟩
      walk_at "go"
      refine ⟨CB, .ty "ValueError", .type "ValueError", true, rfl, hd, X.exc, rfl, fun u r => r, X.val, ?_⟩
      walk_at "go"

      refine ⟨_, rfl, rfl, rfl, x, _, .int n, rfl, hx', rfl, ?_⟩
      rw [hb] at q
      exact q _ (s'.trans (same_new htp))
end
end K04
namespace K04
open PySem PySem.Spec PyProof.Rows L2 Wd
section
variable {P : Program} {w : World} {K : PySem.W.Frag} {mg : Str → Option Value} {base : Heap}
theorem dp_tell (o : Option Nat) {H : Hp} : Dp K H (tellB o) (match o with | none => PyData.none | some n => PyData.int n) := by
  cases o with
  | none => exact .non
  | some n => exact .int _
theorem okd_tell (o : Option Nat) : OkD 1 (match o with | none => PyData.none | some n => PyData.int n) := by
  cases o with
  | none => exact .non
  | some n => exact .int _
abbrev s_law : Stmt := top 39
theorem sc_law : FnScope ["_law_script", "_law_state", "_law_turn", "_law_plan_here", "_law_delays_here", "_law_some", "_law_bad", "_law_place", "_law_due"] ["_law_script"] (C8.fnScope s_law) := C8.fnScope_by (by decide +kernel)
def sp_law (K : PySem.W.Frag) : Sp := fun vs H Q _ => ∃ (sc : Addr) (ns : List Int), vs = [.ref sc] ∧ SqL K H sc (ns.map V.int) ∧ ns.length ≤ 63 ∧ ∀ H', Q (.bl true) H'
theorem ok_law (T : TxtP K mg) {f : Addr} {fd : FuncData} (D : C8.Def K mg "law" s_law f fd)
    (g_law_start : C8.Cal P w K mg base 1 "_law_start" (sp_start K) []) (g_law_good : C8.Cal P w K mg base 7 "_law_good" (sp_good K 3) [])
    (g_law_delays : C8.Cal P w K mg base 6 "_law_delays" (sp_delays K 5) []) (g_law_spoilt : C8.Cal P w K mg base 3 "_law_spoilt" (sp_spoilt K) []) (g_law_first : C8.Cal P w K mg base 6 "_law_first" (sp_first K 5) [])
    (g_law_same : C8.Cal P w K mg base 3 "_law_same" (sp_same K 3) []) (g_law_told : C8.Cal P w K mg base 10 "_law_told" (sp_told K) []) :
    FnOk P w K mg base C8.CX0 11 f fd ["_law_script"] (sp_law K) := by
  refine C8.fn0 D.fn sc_law (fun vs H Q E h => ?_) fun cdv A outer s H vs Q E hr h => ?_
  · obtain ⟨sc, ns, rfl, _⟩ := h; rfl
  · obtain ⟨sc, ns, rfl, hsc, hl, q⟩ := h
    have nd := sc_law.nd
    refine ⟨_, (pss_cons (ps_set (i := 1) nd rfl (Or.inl rfl) (C8.pe_c g_law_start hr (by first | decide | exact Nat.le_refl _ | omega) (by rfl) (pa_cons (pv 0) pa_nil)))
      (pss_cons (ps_for PassesOwn.never rfl (pi_range1 rfl T.n_range (pa_cons pe_int pa_nil)) (pg_name (i := 2) nd rfl (Or.inl rfl)) (pss_cons (ps_set (i := 3) nd rfl (Or.inl rfl) (C8.pe_c g_law_good hr (by first | decide | exact Nat.le_refl _ | omega) (by rfl) (pa_cons (pv 1) (pa_cons pe_int (pa_cons pe_int pa_nil)))))
      (pss_cons (ps_set (i := 4) nd rfl (Or.inl rfl) (pe_lst pa_nil))
      (pss_cons (ps_expr (C8.pe_c g_law_delays hr (by first | decide | exact Nat.le_refl _ | omega) (by rfl) (pa_cons (pv 1) (pa_cons (pv 3) (pa_cons (pv 4) pa_nil)))))
      (pss_one (ps_for PassesOwn.never rfl (pi_list (pe_lst (pa_cons (pv 4) (pa_cons (C8.pe_c g_law_spoilt hr (by first | decide | exact Nat.le_refl _ | omega) (by rfl) (pa_cons (pv 1) (pa_cons (pv 4) pa_nil))) (pa_cons (C8.pe_c g_law_spoilt hr (by first | decide | exact Nat.le_refl _ | omega) (by rfl) (pa_cons (pv 1) (pa_cons (pv 4) pa_nil))) pa_nil))))) (pg_name (i := 5) nd rfl (Or.inl rfl)) (pss_cons (ps_asg (C8.pe_c g_law_first hr (by first | decide | exact Nat.le_refl _ | omega) (by rfl) (pa_cons (pv 3) (pa_cons (pv 5) (pa_cons pe_int pa_nil)))) (pg_tup rfl (pgs_cons (pg_name (i := 6) nd rfl (Or.inl rfl)) (pgs_cons (pg_name (i := 7) nd rfl (Or.inl rfl)) pgs_nil))))
      (pss_cons (ps_set (i := 8) nd rfl (Or.inl rfl) (pe_ifExp (PW.pt (pw_or (pt_truth (pv 6) (by intro _; rfl)) (pw_or1 (pt_cmpR op_lt (pv 7) (pe_callB (r := Wd.rLen K) call_len1 (by rfl) T.n_len PySem.boot_len (pa_cons (pv 5) pa_nil)) (nomark _))))) (pv 7) pe_non))
      (pss_one (ps_if (pt_not (pt_val (C8.pe_c g_law_same hr (by first | decide | exact Nat.le_refl _ | omega) (by rfl) (pa_cons (C8.pe_c g_law_told hr (by first | decide | exact Nat.le_refl _ | omega) (by rfl) (pa_cons (pv 3) (pa_cons (pv 5) pa_nil))) (pa_cons (pv 8) pa_nil))))) (pss_one (ps_ret pe_bl)) pss_nil))))))))))
      (pss_one (ps_ret pe_bl)))), ?_⟩
    walk_at "go"
    refine ⟨noT H, sc, ns, rfl, noT_list hsc, noT_same H, hl, fun H1 S nS s1 d1 => ?_⟩
    walk_at "go"
    refine w_range (by decide) (by decide) (fun i σ H' => ∃ v2 v3 v4 v5 v6 v7 v8 : Option V, σ = [some (.ref sc), some (.ref S), v2, v3, v4, v5, v6, v7, v8] ∧ Dst K (noT H) H' S) ?_ ?_ ?_
    · exact ⟨_, _, _, _, _, _, _, rfl, d1⟩
    · clear d1
      rintro i σ H0 hi ⟨v2, v3, v4, v5, v6, v7, v8, rfl, d⟩
      walk_at "go"
      refine ⟨_, S, 5, 2, rfl, d, by omega, fun H2 v p f2 d2 pv po pc => ?_⟩
      walk_at "go"
      intro F hF
      have d5 := d2.same (same_new (o := .lst []) hF)
      have mxb := mx_le p 4 2 po
      have e100 : (10 : Nat) ^ 2 = 100 := rfl
      rw [e100] at mxb
      walk_at "go"
      refine use_delays (old := []) d5 (PlA_keep (keepT_new hF) _ _ pv) po upd_same (d2.ne hF) (d2.fresh hF) (by simp only [List.length_nil]; omega) fun H6 ds f6 d6 e6 va le6 => ?_
      rw [List.nil_append] at e6
      have pv6 := PlA_keep ((keepT_new hF).trans (keepT_frm2 d5 upd_same f6)) _ _ pv
      have nF := d2.ne hF
      have ld : ds.length ≤ 60000 := by omega
      clear va f6 d5 d2
      walk_at "go"
      refine ⟨_, S, F, ds, rfl, d6, e6, nF, ld, fun H7 L1 ds1 f7 d7 e7 n1 l1 => ?_⟩
      walk_at "go"
      refine ⟨_, S, F, ds, rfl, d7, f7 _ _ nF e6, nF, ld, fun H8 L2 ds2 f8 d8 e8 n2 l2 => ?_⟩
      walk_at "go"
      intro LL hLL
      have pv8 := PlA_keep ((keepT_frm d6 f7).trans ((keepT_frm d7 f8).trans (keepT_new (o := .lst [.ref F, .ref L1, .ref L2]) hLL))) _ _ pv6
      have s9 := same_new (o := .lst [.ref F, .ref L1, .ref L2]) hLL
      have d9 := d8.same s9
      have eF := s9 _ _ (f8 _ _ nF (f7 _ _ nF e6))
      have e1 := s9 _ _ (f8 _ _ n1 e7)
      have e2 := s9 _ _ e8
      have eL := upd_same (H := H8) (a := LL) (o := .lst [.ref F, .ref L1, .ref L2])
      generalize upd H8 LL (.lst [.ref F, .ref L1, .ref L2]) = H9 at pv8 d9 eF e1 e2 eL
      have el : ∀ (j : Nat) (v : V), [V.ref F, .ref L1, .ref L2][j]? = some v → ∃ (LA : Addr) (dz : List Int), v = .ref LA ∧ H9 LA = some (.lst (dz.map V.int)) ∧ dz.length < 10 ^ 6 := by
        intro j v hv
        match j, hv with
        | 0, hv => cases hv; exact ⟨_, _, rfl, eF, by omega⟩
        | 1, hv => cases hv; exact ⟨_, _, rfl, e1, by omega⟩
        | 2, hv => cases hv; exact ⟨_, _, rfl, e2, by omega⟩
        | j + 3, hv => cases hv
      walk_at "go"
      refine w_list (xs := [.ref F, .ref L1, .ref L2]) (fun j σ H' => ∃ v5 v6 v7 v8 : Option V, σ = [some (.ref sc), some (.ref S), some (.int i), some v, some (.ref F), v5, v6, v7, v8] ∧ Same H9 H' ∧ Dst K (noT H) H' S) ?_ ?_ ?_ ?_
      · exact ⟨_, _, _, _, rfl, fun _ _ h => h, d9⟩
      · rintro j σ H' _ ⟨v5, v6, v7, v8, rfl, sm, dd⟩
        exact SqL.of (sm _ _ eL)
      · rintro j x σ H' hx ⟨v5, v6, v7, v8, rfl, sm, dd⟩
        obtain ⟨LA, dz, rfl, hLA, hdz⟩ := el j x hx
        have hL' := sm _ _ hLA
        have pv' := PlA_keep (keepT_same sm) _ _ pv8
        walk_at "go"
        refine ⟨v, p, 2, LA, dz, 0, rfl, pv', po, hL', fun H10 R s10 hR => ?_⟩
        walk_at "go"
        refine g_gtup (SqT.of hR) rfl ?_
        walk_at "go"
        have hbad : bad dz p = if (fs dz p 0).1 = true ∨ (fs dz p 0).2 < dz.length then some (fs dz p 0).2 else none := rfl
        generalize fs dz p 0 = r at hbad ⊢
        obtain ⟨bb, u⟩ := r
        refine ⟨_, rfl, ?_⟩
        cases bb with
        | true =>
          have eb : bad dz p = some u := by rw [hbad]; exact if_pos (.inl rfl)
          walk_at "go"
          refine ⟨v, p, LA, dz, rfl, PlA_keep (keepT_same s10) _ _ pv', po, pc, s10 _ _ hL', hdz, fun H11 s11 => ?_⟩
          rw [eb]
          walk_at "go"
          refine use_same (n := 2) (d := .int u) (.int _) (.int _) (.int _) fun H12 s12 => ?_
          walk_at "go"
          exact ⟨_, _, _, _, rfl, ((sm.trans s10).trans s11).trans s12, ((dd.same s10).same s11).same s12⟩
        | false =>
          walk_at "go"
          refine g_len (.inl (SqL.of (s10 _ _ hL'))) ?_
          walk_at "go"
          rw [List.length_map]
          refine g_ite (fun hlt => ?_) (fun hge => ?_)
          · have eb : bad dz p = some u := by rw [hbad]; exact if_pos (.inr (by omega))
            walk_at "go"
            refine ⟨v, p, LA, dz, rfl, PlA_keep (keepT_same s10) _ _ pv', po, pc, s10 _ _ hL', hdz, fun H11 s11 => ?_⟩
            rw [eb]
            walk_at "go"
            refine use_same (n := 2) (d := .int u) (.int _) (.int _) (.int _) fun H12 s12 => ?_
            walk_at "go"
            exact ⟨_, _, _, _, rfl, ((sm.trans s10).trans s11).trans s12, ((dd.same s10).same s11).same s12⟩
          · have eb : bad dz p = none := by rw [hbad]; exact if_neg (fun z => z.elim (fun z => nomatch z) (fun z => hge (by omega)))
            walk_at "go"
            refine ⟨v, p, LA, dz, rfl, PlA_keep (keepT_same s10) _ _ pv', po, pc, s10 _ _ hL', hdz, fun H11 s11 => ?_⟩
            rw [eb]
            walk_at "go"
            refine use_same (n := 2) (d := .none) .non .non .non fun H12 s12 => ?_
            walk_at "go"
            exact ⟨_, _, _, _, rfl, ((sm.trans s10).trans s11).trans s12, ((dd.same s10).same s11).same s12⟩
      · rintro σ H' ⟨v5, v6, v7, v8, rfl, sm, dd⟩
        walk_at "go"
        exact ⟨_, _, _, _, _, _, _, rfl, dd⟩
    · rintro σ H' ⟨v2, v3, v4, v5, v6, v7, v8, rfl, d⟩
      walk_at "go"
      exact q H'
end
end K04
namespace K04
open PySem PySem.Spec PyProof.Rows L2 Wd
theorem law_at {l : PySem.W.OpenLaw} {w : World} {K : PySem.W.Frag} {h : Heap} {mg : Str → Option Value} {fa : Addr} (X : K.In h) (G : h.Ns mainGlobals mg) (hfa : mg "law" = some (.ref fa))
    {f_is_number : Addr} {oc_is_number kV_is_number dc_is_number pm_is_number cd_is_number ct_is_number : Value} {od_is_number an_is_number : Option Addr} {sl_is_number : Array (Option Value)}
    {f_is_range : Addr} {oc_is_range kV_is_range dc_is_range pm_is_range cd_is_range ct_is_range : Value} {od_is_range an_is_range : Option Addr} {sl_is_range : Array (Option Value)}
    {f_has_form : Addr} {oc_has_form kV_has_form dc_has_form pm_has_form cd_has_form ct_has_form : Value} {od_has_form an_has_form : Option Addr} {sl_has_form : Array (Option Value)}
    {f_plans_in : Addr} {oc_plans_in kV_plans_in dc_plans_in pm_plans_in cd_plans_in ct_plans_in : Value} {od_plans_in an_plans_in : Option Addr} {sl_plans_in : Array (Option Value)}
    {f_check_plan : Addr} {oc_check_plan kV_check_plan dc_check_plan pm_check_plan cd_check_plan ct_check_plan : Value} {od_check_plan an_check_plan : Option Addr} {sl_check_plan : Array (Option Value)}
    {f_run_plan : Addr} {oc_run_plan kV_run_plan dc_run_plan pm_run_plan cd_run_plan ct_run_plan : Value} {od_run_plan an_run_plan : Option Addr} {sl_run_plan : Array (Option Value)}
    {f_law_start : Addr} {oc_law_start kV_law_start dc_law_start pm_law_start cd_law_start ct_law_start : Value} {od_law_start an_law_start : Option Addr} {sl_law_start : Array (Option Value)}
    {f_law_drawn : Addr} {oc_law_drawn kV_law_drawn dc_law_drawn pm_law_drawn cd_law_drawn ct_law_drawn : Value} {od_law_drawn an_law_drawn : Option Addr} {sl_law_drawn : Array (Option Value)}
    {f_law_same : Addr} {oc_law_same kV_law_same dc_law_same pm_law_same cd_law_same ct_law_same : Value} {od_law_same an_law_same : Option Addr} {sl_law_same : Array (Option Value)}
    {f_law_far : Addr} {oc_law_far kV_law_far dc_law_far pm_law_far cd_law_far ct_law_far : Value} {od_law_far an_law_far : Option Addr} {sl_law_far : Array (Option Value)}
    {f_law_plan : Addr} {oc_law_plan kV_law_plan dc_law_plan pm_law_plan cd_law_plan ct_law_plan : Value} {od_law_plan an_law_plan : Option Addr} {sl_law_plan : Array (Option Value)}
    {f_law_count : Addr} {oc_law_count kV_law_count dc_law_count pm_law_count cd_law_count ct_law_count : Value} {od_law_count an_law_count : Option Addr} {sl_law_count : Array (Option Value)}
    {f_law_good : Addr} {oc_law_good kV_law_good dc_law_good pm_law_good cd_law_good ct_law_good : Value} {od_law_good an_law_good : Option Addr} {sl_law_good : Array (Option Value)}
    {f_law_delays : Addr} {oc_law_delays kV_law_delays dc_law_delays pm_law_delays cd_law_delays ct_law_delays : Value} {od_law_delays an_law_delays : Option Addr} {sl_law_delays : Array (Option Value)}
    {f_law_first : Addr} {oc_law_first kV_law_first dc_law_first pm_law_first cd_law_first ct_law_first : Value} {od_law_first an_law_first : Option Addr} {sl_law_first : Array (Option Value)}
    {f_law_spoilt : Addr} {oc_law_spoilt kV_law_spoilt dc_law_spoilt pm_law_spoilt cd_law_spoilt ct_law_spoilt : Value} {od_law_spoilt an_law_spoilt : Option Addr} {sl_law_spoilt : Array (Option Value)}
    {f_law_told : Addr} {oc_law_told kV_law_told dc_law_told pm_law_told cd_law_told ct_law_told : Value} {od_law_told an_law_told : Option Addr} {sl_law_told : Array (Option Value)}
    {fa0 : Addr} {oc_law kV_law dc_law pm_law cd_law ct_law : Value} {od_law an_law : Option Addr} {sl_law : Array (Option Value)}
    {C_Run : Addr}
    {f_Run_init : Addr} {oc_Run_init kV_Run_init dc_Run_init pm_Run_init cd_Run_init ct_Run_init : Value} {od_Run_init an_Run_init : Option Addr} {sl_Run_init : Array (Option Value)}
    {f_Run_take : Addr} {oc_Run_take kV_Run_take dc_Run_take pm_Run_take cd_Run_take ct_Run_take : Value} {od_Run_take an_Run_take : Option Addr} {sl_Run_take : Array (Option Value)}
    {f_Run_follow : Addr} {oc_Run_follow kV_Run_follow dc_Run_follow pm_Run_follow cd_Run_follow ct_Run_follow : Value} {od_Run_follow an_Run_follow : Option Addr} {sl_Run_follow : Array (Option Value)}
    {t_LONGEST_WORK : Tok}
    {t_MOST_TIMES : Tok}
    {t_LONGEST_ROW : Tok}
    {t_MOST_PLANS : Tok}
    {t_MOST_DEEP : Tok}
    {t_MOST_LOOPS : Tok}
    {CD C_0 C_1 C_2 C_3 C_4 C_5 C_6 C_7 C_8 : Addr}
    {nm qB : Str} {NB : Addr} {bsB : List Value} {snB : List Str} {subB : List Value} {abB : Bool} {colB : Option Bool} {ddB : Option Addr} {m0 m1 m2 m3 m5 : Option Value}
    {f_BadDelays_init : Addr} {oc_BadDelays_init kV_BadDelays_init dc_BadDelays_init pm_BadDelays_init cd_BadDelays_init ct_BadDelays_init : Value} {od_BadDelays_init an_BadDelays_init : Option Addr} {sl_BadDelays_init : Array (Option Value)}
    (a_is_number : PySem.W.nsIn K mainGlobals "is_number" = some (some (.ref f_is_number)))
    (l_is_number : K.lookup f_is_number = some ⟨oc_is_number, od_is_number, .func (PySem.W.fnOf "is_number" "is_number" (C8.fnArgs s_is_number) (C8.fnBody s_is_number) (C8.fnScope s_is_number) .none kV_is_number dc_is_number pm_is_number an_is_number cd_is_number ct_is_number), sl_is_number⟩)
    (c_is_number : PySem.W.codeIn K cd_is_number "is_number" = true)
    (k_is_number : PySem.W.keepIn K (.ref f_is_number) = true)
    (a_is_range : PySem.W.nsIn K mainGlobals "is_range" = some (some (.ref f_is_range)))
    (l_is_range : K.lookup f_is_range = some ⟨oc_is_range, od_is_range, .func (PySem.W.fnOf "is_range" "is_range" (C8.fnArgs s_is_range) (C8.fnBody s_is_range) (C8.fnScope s_is_range) .none kV_is_range dc_is_range pm_is_range an_is_range cd_is_range ct_is_range), sl_is_range⟩)
    (c_is_range : PySem.W.codeIn K cd_is_range "is_range" = true)
    (k_is_range : PySem.W.keepIn K (.ref f_is_range) = true)
    (a_has_form : PySem.W.nsIn K mainGlobals "has_form" = some (some (.ref f_has_form)))
    (l_has_form : K.lookup f_has_form = some ⟨oc_has_form, od_has_form, .func (PySem.W.fnOf "has_form" "has_form" (C8.fnArgs s_has_form) (C8.fnBody s_has_form) (C8.fnScope s_has_form) .none kV_has_form dc_has_form pm_has_form an_has_form cd_has_form ct_has_form), sl_has_form⟩)
    (c_has_form : PySem.W.codeIn K cd_has_form "has_form" = true)
    (k_has_form : PySem.W.keepIn K (.ref f_has_form) = true)
    (a_plans_in : PySem.W.nsIn K mainGlobals "plans_in" = some (some (.ref f_plans_in)))
    (l_plans_in : K.lookup f_plans_in = some ⟨oc_plans_in, od_plans_in, .func (PySem.W.fnOf "plans_in" "plans_in" (C8.fnArgs s_plans_in) (C8.fnBody s_plans_in) (C8.fnScope s_plans_in) .none kV_plans_in dc_plans_in pm_plans_in an_plans_in cd_plans_in ct_plans_in), sl_plans_in⟩)
    (c_plans_in : PySem.W.codeIn K cd_plans_in "plans_in" = true)
    (k_plans_in : PySem.W.keepIn K (.ref f_plans_in) = true)
    (a_check_plan : PySem.W.nsIn K mainGlobals "check_plan" = some (some (.ref f_check_plan)))
    (l_check_plan : K.lookup f_check_plan = some ⟨oc_check_plan, od_check_plan, .func (PySem.W.fnOf "check_plan" "check_plan" (C8.fnArgs s_check_plan) (C8.fnBody s_check_plan) (C8.fnScope s_check_plan) .none kV_check_plan dc_check_plan pm_check_plan an_check_plan cd_check_plan ct_check_plan), sl_check_plan⟩)
    (c_check_plan : PySem.W.codeIn K cd_check_plan "check_plan" = true)
    (k_check_plan : PySem.W.keepIn K (.ref f_check_plan) = true)
    (a_run_plan : PySem.W.nsIn K mainGlobals "run_plan" = some (some (.ref f_run_plan)))
    (l_run_plan : K.lookup f_run_plan = some ⟨oc_run_plan, od_run_plan, .func (PySem.W.fnOf "run_plan" "run_plan" (C8.fnArgs s_run_plan) (C8.fnBody s_run_plan) (C8.fnScope s_run_plan) .none kV_run_plan dc_run_plan pm_run_plan an_run_plan cd_run_plan ct_run_plan), sl_run_plan⟩)
    (c_run_plan : PySem.W.codeIn K cd_run_plan "run_plan" = true)
    (k_run_plan : PySem.W.keepIn K (.ref f_run_plan) = true)
    (a_law_start : PySem.W.nsIn K mainGlobals "_law_start" = some (some (.ref f_law_start)))
    (l_law_start : K.lookup f_law_start = some ⟨oc_law_start, od_law_start, .func (PySem.W.fnOf "_law_start" "_law_start" (C8.fnArgs s_law_start) (C8.fnBody s_law_start) (C8.fnScope s_law_start) .none kV_law_start dc_law_start pm_law_start an_law_start cd_law_start ct_law_start), sl_law_start⟩)
    (c_law_start : PySem.W.codeIn K cd_law_start "_law_start" = true)
    (k_law_start : PySem.W.keepIn K (.ref f_law_start) = true)
    (a_law_drawn : PySem.W.nsIn K mainGlobals "_law_drawn" = some (some (.ref f_law_drawn)))
    (l_law_drawn : K.lookup f_law_drawn = some ⟨oc_law_drawn, od_law_drawn, .func (PySem.W.fnOf "_law_drawn" "_law_drawn" (C8.fnArgs s_law_drawn) (C8.fnBody s_law_drawn) (C8.fnScope s_law_drawn) .none kV_law_drawn dc_law_drawn pm_law_drawn an_law_drawn cd_law_drawn ct_law_drawn), sl_law_drawn⟩)
    (c_law_drawn : PySem.W.codeIn K cd_law_drawn "_law_drawn" = true)
    (k_law_drawn : PySem.W.keepIn K (.ref f_law_drawn) = true)
    (a_law_same : PySem.W.nsIn K mainGlobals "_law_same" = some (some (.ref f_law_same)))
    (l_law_same : K.lookup f_law_same = some ⟨oc_law_same, od_law_same, .func (PySem.W.fnOf "_law_same" "_law_same" (C8.fnArgs s_law_same) (C8.fnBody s_law_same) (C8.fnScope s_law_same) .none kV_law_same dc_law_same pm_law_same an_law_same cd_law_same ct_law_same), sl_law_same⟩)
    (c_law_same : PySem.W.codeIn K cd_law_same "_law_same" = true)
    (k_law_same : PySem.W.keepIn K (.ref f_law_same) = true)
    (a_law_far : PySem.W.nsIn K mainGlobals "_law_far" = some (some (.ref f_law_far)))
    (l_law_far : K.lookup f_law_far = some ⟨oc_law_far, od_law_far, .func (PySem.W.fnOf "_law_far" "_law_far" (C8.fnArgs s_law_far) (C8.fnBody s_law_far) (C8.fnScope s_law_far) .none kV_law_far dc_law_far pm_law_far an_law_far cd_law_far ct_law_far), sl_law_far⟩)
    (c_law_far : PySem.W.codeIn K cd_law_far "_law_far" = true)
    (k_law_far : PySem.W.keepIn K (.ref f_law_far) = true)
    (a_law_plan : PySem.W.nsIn K mainGlobals "_law_plan" = some (some (.ref f_law_plan)))
    (l_law_plan : K.lookup f_law_plan = some ⟨oc_law_plan, od_law_plan, .func (PySem.W.fnOf "_law_plan" "_law_plan" (C8.fnArgs s_law_plan) (C8.fnBody s_law_plan) (C8.fnScope s_law_plan) .none kV_law_plan dc_law_plan pm_law_plan an_law_plan cd_law_plan ct_law_plan), sl_law_plan⟩)
    (c_law_plan : PySem.W.codeIn K cd_law_plan "_law_plan" = true)
    (k_law_plan : PySem.W.keepIn K (.ref f_law_plan) = true)
    (a_law_count : PySem.W.nsIn K mainGlobals "_law_count" = some (some (.ref f_law_count)))
    (l_law_count : K.lookup f_law_count = some ⟨oc_law_count, od_law_count, .func (PySem.W.fnOf "_law_count" "_law_count" (C8.fnArgs s_law_count) (C8.fnBody s_law_count) (C8.fnScope s_law_count) .none kV_law_count dc_law_count pm_law_count an_law_count cd_law_count ct_law_count), sl_law_count⟩)
    (c_law_count : PySem.W.codeIn K cd_law_count "_law_count" = true)
    (k_law_count : PySem.W.keepIn K (.ref f_law_count) = true)
    (a_law_good : PySem.W.nsIn K mainGlobals "_law_good" = some (some (.ref f_law_good)))
    (l_law_good : K.lookup f_law_good = some ⟨oc_law_good, od_law_good, .func (PySem.W.fnOf "_law_good" "_law_good" (C8.fnArgs s_law_good) (C8.fnBody s_law_good) (C8.fnScope s_law_good) .none kV_law_good dc_law_good pm_law_good an_law_good cd_law_good ct_law_good), sl_law_good⟩)
    (c_law_good : PySem.W.codeIn K cd_law_good "_law_good" = true)
    (k_law_good : PySem.W.keepIn K (.ref f_law_good) = true)
    (a_law_delays : PySem.W.nsIn K mainGlobals "_law_delays" = some (some (.ref f_law_delays)))
    (l_law_delays : K.lookup f_law_delays = some ⟨oc_law_delays, od_law_delays, .func (PySem.W.fnOf "_law_delays" "_law_delays" (C8.fnArgs s_law_delays) (C8.fnBody s_law_delays) (C8.fnScope s_law_delays) .none kV_law_delays dc_law_delays pm_law_delays an_law_delays cd_law_delays ct_law_delays), sl_law_delays⟩)
    (c_law_delays : PySem.W.codeIn K cd_law_delays "_law_delays" = true)
    (k_law_delays : PySem.W.keepIn K (.ref f_law_delays) = true)
    (a_law_first : PySem.W.nsIn K mainGlobals "_law_first" = some (some (.ref f_law_first)))
    (l_law_first : K.lookup f_law_first = some ⟨oc_law_first, od_law_first, .func (PySem.W.fnOf "_law_first" "_law_first" (C8.fnArgs s_law_first) (C8.fnBody s_law_first) (C8.fnScope s_law_first) .none kV_law_first dc_law_first pm_law_first an_law_first cd_law_first ct_law_first), sl_law_first⟩)
    (c_law_first : PySem.W.codeIn K cd_law_first "_law_first" = true)
    (k_law_first : PySem.W.keepIn K (.ref f_law_first) = true)
    (a_law_spoilt : PySem.W.nsIn K mainGlobals "_law_spoilt" = some (some (.ref f_law_spoilt)))
    (l_law_spoilt : K.lookup f_law_spoilt = some ⟨oc_law_spoilt, od_law_spoilt, .func (PySem.W.fnOf "_law_spoilt" "_law_spoilt" (C8.fnArgs s_law_spoilt) (C8.fnBody s_law_spoilt) (C8.fnScope s_law_spoilt) .none kV_law_spoilt dc_law_spoilt pm_law_spoilt an_law_spoilt cd_law_spoilt ct_law_spoilt), sl_law_spoilt⟩)
    (c_law_spoilt : PySem.W.codeIn K cd_law_spoilt "_law_spoilt" = true)
    (k_law_spoilt : PySem.W.keepIn K (.ref f_law_spoilt) = true)
    (a_law_told : PySem.W.nsIn K mainGlobals "_law_told" = some (some (.ref f_law_told)))
    (l_law_told : K.lookup f_law_told = some ⟨oc_law_told, od_law_told, .func (PySem.W.fnOf "_law_told" "_law_told" (C8.fnArgs s_law_told) (C8.fnBody s_law_told) (C8.fnScope s_law_told) .none kV_law_told dc_law_told pm_law_told an_law_told cd_law_told ct_law_told), sl_law_told⟩)
    (c_law_told : PySem.W.codeIn K cd_law_told "_law_told" = true)
    (k_law_told : PySem.W.keepIn K (.ref f_law_told) = true)
    (a_law : PySem.W.nsIn K mainGlobals "law" = some (some (.ref fa0)))
    (l_law : K.lookup fa0 = some ⟨oc_law, od_law, .func (PySem.W.fnOf "law" "law" (C8.fnArgs s_law) (C8.fnBody s_law) (C8.fnScope s_law) .none kV_law dc_law pm_law an_law cd_law ct_law), sl_law⟩)
    (c_law : PySem.W.codeIn K cd_law "law" = true)
    (k_law : PySem.W.keepIn K (.ref fa0) = true)
    (aC_Run : PySem.W.nsIn K mainGlobals "Run" = some (some (.ref C_Run)))
    (a_Run_init : PySem.W.findIn K (.ref C_Run) "__init__" = some (some (.ref f_Run_init)))
    (i_Run_init : PySem.W.isFn K (.ref f_Run_init) = true)
    (l_Run_init : K.lookup f_Run_init = some ⟨oc_Run_init, od_Run_init, .func (PySem.W.fnOf "__init__" "Run.__init__" (C8.fnArgs s_Run_init) (C8.fnBody s_Run_init) (C8.fnScope s_Run_init) .none kV_Run_init dc_Run_init pm_Run_init an_Run_init cd_Run_init ct_Run_init), sl_Run_init⟩)
    (c_Run_init : PySem.W.codeIn K cd_Run_init "Run.__init__" = true)
    (k_Run_init : PySem.W.keepIn K (.ref f_Run_init) = true)
    (a_Run_take : PySem.W.findIn K (.ref C_Run) "take" = some (some (.ref f_Run_take)))
    (i_Run_take : PySem.W.isFn K (.ref f_Run_take) = true)
    (l_Run_take : K.lookup f_Run_take = some ⟨oc_Run_take, od_Run_take, .func (PySem.W.fnOf "take" "Run.take" (C8.fnArgs s_Run_take) (C8.fnBody s_Run_take) (C8.fnScope s_Run_take) .none kV_Run_take dc_Run_take pm_Run_take an_Run_take cd_Run_take ct_Run_take), sl_Run_take⟩)
    (c_Run_take : PySem.W.codeIn K cd_Run_take "Run.take" = true)
    (k_Run_take : PySem.W.keepIn K (.ref f_Run_take) = true)
    (a_Run_follow : PySem.W.findIn K (.ref C_Run) "follow" = some (some (.ref f_Run_follow)))
    (i_Run_follow : PySem.W.isFn K (.ref f_Run_follow) = true)
    (l_Run_follow : K.lookup f_Run_follow = some ⟨oc_Run_follow, od_Run_follow, .func (PySem.W.fnOf "follow" "Run.follow" (C8.fnArgs s_Run_follow) (C8.fnBody s_Run_follow) (C8.fnScope s_Run_follow) .none kV_Run_follow dc_Run_follow pm_Run_follow an_Run_follow cd_Run_follow ct_Run_follow), sl_Run_follow⟩)
    (c_Run_follow : PySem.W.codeIn K cd_Run_follow "Run.follow" = true)
    (k_Run_follow : PySem.W.keepIn K (.ref f_Run_follow) = true)
    (pg_Run : PySem.W.plainGet K C_Run Str.empty = true)
    (hdd_Run : PySem.W.hasDictIn K C_Run = true)
    (po_Run : PySem.W.plainOver K C_Run = true)
    (sa_Run : PySem.W.findIn K (.ref C_Run) "__setattr__" = some (some (.builtin "object.__setattr__")))
    (mk_Run : PySem.W.makesIn K C_Run = true)
    (kc_Run : PySem.W.keepIn K (.ref C_Run) = true)
    (n_Run_delays : PySem.W.findIn K (.ref C_Run) "delays" = some none)
    (n_Run_used : PySem.W.findIn K (.ref C_Run) "used" = some none)
    (n_Run_now : PySem.W.findIn K (.ref C_Run) "now" = some none)
    (n_Run_pats : PySem.W.findIn K (.ref C_Run) "pats" = some none)
    (z_isinstance : PySem.W.nsIn K mainGlobals "isinstance" = some none)
    (z_ValueError : PySem.W.nsIn K mainGlobals "ValueError" = some none)
    (z_len : PySem.W.nsIn K mainGlobals "len" = some none)
    (z_int : PySem.W.nsIn K mainGlobals "int" = some none)
    (z_bool : PySem.W.nsIn K mainGlobals "bool" = some none)
    (z_range : PySem.W.nsIn K mainGlobals "range" = some none)
    (z_list : PySem.W.nsIn K mainGlobals "list" = some none)
    (z_tuple : PySem.W.nsIn K mainGlobals "tuple" = some none)
    (z_str : PySem.W.nsIn K mainGlobals "str" = some none)
    (z_sum : PySem.W.nsIn K mainGlobals "sum" = some none)
    (q_LONGEST_WORK : PySem.W.nsIn K mainGlobals "LONGEST_WORK" = some (some (.int 1000 t_LONGEST_WORK)))
    (q_MOST_TIMES : PySem.W.nsIn K mainGlobals "MOST_TIMES" = some (some (.int 9 t_MOST_TIMES)))
    (q_LONGEST_ROW : PySem.W.nsIn K mainGlobals "LONGEST_ROW" = some (some (.int 20 t_LONGEST_ROW)))
    (q_MOST_PLANS : PySem.W.nsIn K mainGlobals "MOST_PLANS" = some (some (.int 30 t_MOST_PLANS)))
    (q_MOST_DEEP : PySem.W.nsIn K mainGlobals "MOST_DEEP" = some (some (.int 6 t_MOST_DEEP)))
    (q_MOST_LOOPS : PySem.W.nsIn K mainGlobals "MOST_LOOPS" = some (some (.int 2 t_MOST_LOOPS)))
    (aD : PySem.W.nsIn K mainGlobals "DogError" = some (some (.ref CD)))
    (aC0 : PySem.W.nsIn K mainGlobals "BadDelays" = some (some (.ref C_0)))
    (aC1 : PySem.W.nsIn K mainGlobals "BadBeat" = some (some (.ref C_1)))
    (aC2 : PySem.W.nsIn K mainGlobals "BadPlan" = some (some (.ref C_2)))
    (aC3 : PySem.W.nsIn K mainGlobals "BadTasks" = some (some (.ref C_3)))
    (aC4 : PySem.W.nsIn K mainGlobals "BadWindow" = some (some (.ref C_4)))
    (aC5 : PySem.W.nsIn K mainGlobals "BadWorks" = some (some (.ref C_5)))
    (aC6 : PySem.W.nsIn K mainGlobals "NoPats" = some (some (.ref C_6)))
    (aC7 : PySem.W.nsIn K mainGlobals "NoPlace" = some (some (.ref C_7)))
    (aC8 : PySem.W.nsIn K mainGlobals "TooMuch" = some (some (.ref C_8)))
    (bD : PySem.W.subIn K (.ref CD) (.type "BaseException") = some true)
    (hD : PySem.W.hasDictIn K CD = true)
    (tD : PySem.W.typeIn K (.ref CD) = some (.type "type"))
    (xL : K.lookup C_0 = some (excClassObj nm qB C_0 NB bsB [.ref CD, .type "ValueError", .type "Exception", .type "BaseException", .type "object"] true snB subB abB colB ddB m0 m1 m2 m3 m5 "ValueError.__new__"))
    (saB : PySem.W.findIn K (.ref C_0) "__setattr__" = some (some (.builtin "object.__setattr__")))
    (a_BadDelays_init : PySem.W.findIn K (.ref C_0) "__init__" = some (some (.ref f_BadDelays_init)))
    (tI : PySem.W.typeIn K (.ref f_BadDelays_init) = some (.type "function"))
    (l_BadDelays_init : K.lookup f_BadDelays_init = some ⟨oc_BadDelays_init, od_BadDelays_init, .func (PySem.W.fnOf "__init__" "BadDelays.__init__" (C8.fnArgs s_BadDelays_init) (C8.fnBody s_BadDelays_init) (C8.fnScope s_BadDelays_init) .none kV_BadDelays_init dc_BadDelays_init pm_BadDelays_init an_BadDelays_init cd_BadDelays_init ct_BadDelays_init), sl_BadDelays_init⟩)
    (c_BadDelays_init : PySem.W.codeIn K cd_BadDelays_init "BadDelays.__init__" = true)
    (rdD : PySem.W.readsIn K CD (.type "type") = true)
    (gaD : PySem.W.specialIn K (.ref CD) "__getattribute__" = some (some (.builtin "type.__getattribute__")))
    (vVD : PySem.W.findCls K (.ref CD) (.type "type") "__init__" = some (.val (.builtin "ValueError.__init__")))
    (naB : PySem.W.findIn K (.ref C_0) "at" = some none)
    (kkB : PySem.W.keepIn K (.ref C_0) = true)
    (bB : PySem.W.subIn K (.ref C_0) (.type "BaseException") = some true)
    (tB : PySem.W.typeIn K (.ref C_0) = some (.type "type"))
    (hgB : PySem.W.findIn K (.ref C_0) "__getattribute__" = some (some (.builtin "BaseException.__getattribute__")))
    (hkB : PySem.W.findIn K (.ref C_0) "__getattr__" = some none)
    (hdB : PySem.W.hasDictIn K C_0 = true)
    (haB : PySem.W.findIn K (.ref C_0) "__class__" = some (some (.builtin "object.__class__")))
    (hmB : PySem.W.mroIn K C_0 (.type "object") = some true)
    (xnB : PySem.W.specialIn K (.builtin "object.__class__") "__get__" = some (some (.builtin "getset_descriptor.__get__")))
    (xtB : PySem.W.takesIn K (.builtin "object.__class__") = some true)
    (sDB : PySem.W.subIn K (.ref C_0) (.ref CD) = some true)
    (kvB : PySem.W.kitOne K (.ref C_0) (.type "ValueError") = some true)
    (kiB_0 : PySem.W.kitOne K (.ref C_0) (.ref C_0) = some true)
    (kiB_1 : PySem.W.kitOne K (.ref C_0) (.ref C_1) = some false)
    (kiB_2 : PySem.W.kitOne K (.ref C_0) (.ref C_2) = some false)
    (kiB_3 : PySem.W.kitOne K (.ref C_0) (.ref C_3) = some false)
    (kiB_4 : PySem.W.kitOne K (.ref C_0) (.ref C_4) = some false)
    (kiB_5 : PySem.W.kitOne K (.ref C_0) (.ref C_5) = some false)
    (kiB_6 : PySem.W.kitOne K (.ref C_0) (.ref C_6) = some false)
    (kiB_7 : PySem.W.kitOne K (.ref C_0) (.ref C_7) = some false)
    (kiB_8 : PySem.W.kitOne K (.ref C_0) (.ref C_8) = some false) :
    ∃ fd : FuncData, (∀ (s : Shared) (v : Value), BindsTo s fd ⟨[v], []⟩ [("_law_script", v)]) ∧ ∀ base : Heap, K.In base → base.Ns mainGlobals mg → FnOk l.prog w K mg base C8.CX0 11 fa fd ["_law_script"] (sp_law K) := by
  have e := hfa.symm.trans (PySem.W.mg_of X G a_law)
  cases e
  have D_is_number : C8.Def K mg "is_number" s_is_number f_is_number _ := ⟨⟨_, _, _, _, _, _, _, _, _, _, rfl, l_is_number, c_is_number⟩, PySem.W.mg_of X G a_is_number, k_is_number⟩
  have B_is_number := C8.Fun.binds (ps := ["value"]) D_is_number.fn rfl fun _ _ _ _ _ _ us hl => match us, hl with | [_], _ => rfl
  have D_is_range : C8.Def K mg "is_range" s_is_range f_is_range _ := ⟨⟨_, _, _, _, _, _, _, _, _, _, rfl, l_is_range, c_is_range⟩, PySem.W.mg_of X G a_is_range, k_is_range⟩
  have B_is_range := C8.Fun.binds (ps := ["least", "most", "limit"]) D_is_range.fn rfl fun _ _ _ _ _ _ us hl => match us, hl with | [_, _, _], _ => rfl
  have D_has_form : C8.Def K mg "has_form" s_has_form f_has_form _ := ⟨⟨_, _, _, _, _, _, _, _, _, _, rfl, l_has_form, c_has_form⟩, PySem.W.mg_of X G a_has_form, k_has_form⟩
  have B_has_form := C8.Fun.binds (ps := ["plan"]) D_has_form.fn rfl fun _ _ _ _ _ _ us hl => match us, hl with | [_], _ => rfl
  have D_plans_in : C8.Def K mg "plans_in" s_plans_in f_plans_in _ := ⟨⟨_, _, _, _, _, _, _, _, _, _, rfl, l_plans_in, c_plans_in⟩, PySem.W.mg_of X G a_plans_in, k_plans_in⟩
  have B_plans_in := C8.Fun.binds (ps := ["plan"]) D_plans_in.fn rfl fun _ _ _ _ _ _ us hl => match us, hl with | [_], _ => rfl
  have D_check_plan : C8.Def K mg "check_plan" s_check_plan f_check_plan _ := ⟨⟨_, _, _, _, _, _, _, _, _, _, rfl, l_check_plan, c_check_plan⟩, PySem.W.mg_of X G a_check_plan, k_check_plan⟩
  have B_check_plan := C8.Fun.binds (ps := ["plan"]) D_check_plan.fn rfl fun _ _ _ _ _ _ us hl => match us, hl with | [_], _ => rfl
  have D_run_plan : C8.Def K mg "run_plan" s_run_plan f_run_plan _ := ⟨⟨_, _, _, _, _, _, _, _, _, _, rfl, l_run_plan, c_run_plan⟩, PySem.W.mg_of X G a_run_plan, k_run_plan⟩
  have B_run_plan := C8.Fun.binds (ps := ["plan", "delays"]) D_run_plan.fn rfl fun _ _ _ _ _ _ us hl => match us, hl with | [_, _], _ => rfl
  have D_law_start : C8.Def K mg "_law_start" s_law_start f_law_start _ := ⟨⟨_, _, _, _, _, _, _, _, _, _, rfl, l_law_start, c_law_start⟩, PySem.W.mg_of X G a_law_start, k_law_start⟩
  have B_law_start := C8.Fun.binds (ps := ["_law_script"]) D_law_start.fn rfl fun _ _ _ _ _ _ us hl => match us, hl with | [_], _ => rfl
  have D_law_drawn : C8.Def K mg "_law_drawn" s_law_drawn f_law_drawn _ := ⟨⟨_, _, _, _, _, _, _, _, _, _, rfl, l_law_drawn, c_law_drawn⟩, PySem.W.mg_of X G a_law_drawn, k_law_drawn⟩
  have B_law_drawn := C8.Fun.binds (ps := ["_law_state", "_law_many"]) D_law_drawn.fn rfl fun _ _ _ _ _ _ us hl => match us, hl with | [_, _], _ => rfl
  have D_law_same : C8.Def K mg "_law_same" s_law_same f_law_same _ := ⟨⟨_, _, _, _, _, _, _, _, _, _, rfl, l_law_same, c_law_same⟩, PySem.W.mg_of X G a_law_same, k_law_same⟩
  have B_law_same := C8.Fun.binds (ps := ["_law_found", "_law_due"]) D_law_same.fn rfl fun _ _ _ _ _ _ us hl => match us, hl with | [_, _], _ => rfl
  have D_law_far : C8.Def K mg "_law_far" s_law_far f_law_far _ := ⟨⟨_, _, _, _, _, _, _, _, _, _, rfl, l_law_far, c_law_far⟩, PySem.W.mg_of X G a_law_far, k_law_far⟩
  have B_law_far := C8.Fun.binds (ps := ["_law_state", "_law_most"]) D_law_far.fn rfl fun _ _ _ _ _ _ us hl => match us, hl with | [_, _], _ => rfl
  have D_law_plan : C8.Def K mg "_law_plan" s_law_plan f_law_plan _ := ⟨⟨_, _, _, _, _, _, _, _, _, _, rfl, l_law_plan, c_law_plan⟩, PySem.W.mg_of X G a_law_plan, k_law_plan⟩
  have B_law_plan := C8.Fun.binds (ps := ["_law_state", "_law_deep", "_law_loops"]) D_law_plan.fn rfl fun _ _ _ _ _ _ us hl => match us, hl with | [_, _, _], _ => rfl
  have D_law_count : C8.Def K mg "_law_count" s_law_count f_law_count _ := ⟨⟨_, _, _, _, _, _, _, _, _, _, rfl, l_law_count, c_law_count⟩, PySem.W.mg_of X G a_law_count, k_law_count⟩
  have B_law_count := C8.Fun.binds (ps := ["_law_plan_here"]) D_law_count.fn rfl fun _ _ _ _ _ _ us hl => match us, hl with | [_], _ => rfl
  have D_law_good : C8.Def K mg "_law_good" s_law_good f_law_good _ := ⟨⟨_, _, _, _, _, _, _, _, _, _, rfl, l_law_good, c_law_good⟩, PySem.W.mg_of X G a_law_good, k_law_good⟩
  have B_law_good := C8.Fun.binds (ps := ["_law_state", "_law_deep", "_law_loops"]) D_law_good.fn rfl fun _ _ _ _ _ _ us hl => match us, hl with | [_, _, _], _ => rfl
  have D_law_delays : C8.Def K mg "_law_delays" s_law_delays f_law_delays _ := ⟨⟨_, _, _, _, _, _, _, _, _, _, rfl, l_law_delays, c_law_delays⟩, PySem.W.mg_of X G a_law_delays, k_law_delays⟩
  have B_law_delays := C8.Fun.binds (ps := ["_law_state", "_law_plan_here", "_law_found"]) D_law_delays.fn rfl fun _ _ _ _ _ _ us hl => match us, hl with | [_, _, _], _ => rfl
  have D_law_first : C8.Def K mg "_law_first" s_law_first f_law_first _ := ⟨⟨_, _, _, _, _, _, _, _, _, _, rfl, l_law_first, c_law_first⟩, PySem.W.mg_of X G a_law_first, k_law_first⟩
  have B_law_first := C8.Fun.binds (ps := ["_law_plan_here", "_law_delays_here", "_law_place"]) D_law_first.fn rfl fun _ _ _ _ _ _ us hl => match us, hl with | [_, _, _], _ => rfl
  have D_law_spoilt : C8.Def K mg "_law_spoilt" s_law_spoilt f_law_spoilt _ := ⟨⟨_, _, _, _, _, _, _, _, _, _, rfl, l_law_spoilt, c_law_spoilt⟩, PySem.W.mg_of X G a_law_spoilt, k_law_spoilt⟩
  have B_law_spoilt := C8.Fun.binds (ps := ["_law_state", "_law_delays_here"]) D_law_spoilt.fn rfl fun _ _ _ _ _ _ us hl => match us, hl with | [_, _], _ => rfl
  have D_law_told : C8.Def K mg "_law_told" s_law_told f_law_told _ := ⟨⟨_, _, _, _, _, _, _, _, _, _, rfl, l_law_told, c_law_told⟩, PySem.W.mg_of X G a_law_told, k_law_told⟩
  have B_law_told := C8.Fun.binds (ps := ["_law_plan_here", "_law_delays_here"]) D_law_told.fn rfl fun _ _ _ _ _ _ us hl => match us, hl with | [_, _], _ => rfl
  have F_Run_init : C8.Fun K "__init__" "Run.__init__" s_Run_init f_Run_init _ := ⟨_, _, _, _, _, _, _, _, _, _, rfl, l_Run_init, c_Run_init⟩
  have B_Run_init := C8.Fun.binds (ps := ["self", "delays"]) F_Run_init rfl fun _ _ _ _ _ _ us hl => match us, hl with | [_, _], _ => rfl
  have F_Run_take : C8.Fun K "take" "Run.take" s_Run_take f_Run_take _ := ⟨_, _, _, _, _, _, _, _, _, _, rfl, l_Run_take, c_Run_take⟩
  have B_Run_take := C8.Fun.binds (ps := ["self", "least", "most"]) F_Run_take rfl fun _ _ _ _ _ _ us hl => match us, hl with | [_, _, _], _ => rfl
  have F_Run_follow : C8.Fun K "follow" "Run.follow" s_Run_follow f_Run_follow _ := ⟨_, _, _, _, _, _, _, _, _, _, rfl, l_Run_follow, c_Run_follow⟩
  have B_Run_follow := C8.Fun.binds (ps := ["self", "plan"]) F_Run_follow rfl fun _ _ _ _ _ _ us hl => match us, hl with | [_, _], _ => rfl
  have T0 : Txt K mg := ⟨PySem.W.mg_none_of X G z_isinstance, PySem.W.mg_none_of X G z_len, PySem.W.mg_none_of X G z_int, PySem.W.mg_none_of X G z_bool, PySem.W.mg_none_of X G z_range, PySem.W.mg_none_of X G z_list, PySem.W.mg_none_of X G z_tuple, PySem.W.mg_none_of X G z_str, PySem.W.mg_none_of X G z_sum⟩
  have T : TxtP K mg := ⟨T0, ⟨_, PySem.W.mg_of X G q_LONGEST_WORK⟩, ⟨_, PySem.W.mg_of X G q_MOST_TIMES⟩, ⟨_, PySem.W.mg_of X G q_LONGEST_ROW⟩, ⟨_, PySem.W.mg_of X G q_MOST_PLANS⟩, ⟨_, PySem.W.mg_of X G q_MOST_DEEP⟩, ⟨_, PySem.W.mg_of X G q_MOST_LOOPS⟩⟩
  have TR : TxtR K C_Run := ⟨⟨pg_Run, hdd_Run, po_Run, sa_Run⟩, n_Run_delays, n_Run_used, n_Run_now, n_Run_pats⟩
  have TB : TxtB K mg C_0 CD f_BadDelays_init := ⟨⟨⟨_, _, _, _, _, _, _, _, _, _, _, _, _, _, _, xL, (by show PySem.HandSPX.refsVE [.type "ValueError", .type "Exception", .type "BaseException", .type "object"] = true; decide +kernel)⟩, saB, bB, tB, kkB⟩, a_BadDelays_init, tI, PySem.W.mg_of X G aC0, PySem.W.mg_of X G aD, ⟨rdD, gaD⟩, vVD, naB⟩
  have TE : TxtE K mg C_0 CD := ⟨PySem.W.mg_none_of X G z_isinstance, PySem.W.mg_none_of X G z_ValueError, PySem.W.exm_ref bD hD tD sDB, ⟨hgB, hkB, bB, hdB, haB, xnB, xtB, hmB⟩, ⟨hgB, hkB, bB, hdB⟩, kvB, kiB_0,
    ⟨_, PySem.W.mg_of X G aC1, kiB_1⟩, ⟨_, PySem.W.mg_of X G aC2, kiB_2⟩, ⟨_, PySem.W.mg_of X G aC3, kiB_3⟩, ⟨_, PySem.W.mg_of X G aC4, kiB_4⟩, ⟨_, PySem.W.mg_of X G aC5, kiB_5⟩, ⟨_, PySem.W.mg_of X G aC6, kiB_6⟩, ⟨_, PySem.W.mg_of X G aC7, kiB_7⟩, ⟨_, PySem.W.mg_of X G aC8, kiB_8⟩⟩
  have F_init : C8.Fun K "__init__" "BadDelays.__init__" s_BadDelays_init f_BadDelays_init _ := ⟨_, _, _, _, _, _, _, _, _, _, rfl, l_BadDelays_init, c_BadDelays_init⟩
  have B_init := C8.Fun.binds (ps := ["self", "at"]) F_init rfl fun _ _ _ _ _ _ us hl => match us, hl with | [_, _], _ => rfl
  have D_law : C8.Def K mg "law" s_law _ _ := ⟨⟨_, _, _, _, _, _, _, _, _, _, rfl, l_law, c_law⟩, PySem.W.mg_of X G a_law, k_law⟩
  refine ⟨PySem.W.fnOf "law" "law" (C8.fnArgs s_law) (C8.fnBody s_law) (C8.fnScope s_law) .none kV_law dc_law pm_law an_law cd_law ct_law, fun s u => .of_eq rfl, fun base KB GB => ?_⟩
  have gI := ok_binit (P := l.prog) (w := w) (base := base) (mg := mg) TB F_init
  have g0 := ok_is_number (P := l.prog) (w := w) (base := base) T D_is_number B_is_number
  have g1 := ok_is_range T D_is_range B_is_range g0
  have g2 := ok_has_form T D_has_form B_has_form g1
  have g3 := ok_plans_in (P := l.prog) (w := w) (base := base) T D_plans_in B_plans_in
  have g4 := ok_check_plan T D_check_plan B_check_plan g2 g3
  have m1 := ok_take T TR TB gI B_init ⟨a_Run_take, i_Run_take, k_Run_take⟩ F_Run_take B_Run_take g0
  have m2 := ok_follow T TR ⟨a_Run_follow, i_Run_follow, k_Run_follow⟩ F_Run_follow B_Run_follow m1 5
  have m0' := ok_init (P := l.prog) (w := w) (base := base) T TR ⟨mk_Run, a_Run_init, i_Run_init, kc_Run⟩ (PySem.W.mg_of X G aC_Run) F_Run_init B_Run_init
  have g5 := ok_run_plan T TR TB gI B_init D_run_plan B_run_plan g4 m0' m2
  have h1 := ok_start (P := l.prog) (w := w) (base := base) T0 D_law_start B_law_start
  have h2 := ok_drawn (P := l.prog) (w := w) (base := base) T0 D_law_drawn B_law_drawn
  have h3 := ok_plan T0 D_law_plan B_law_plan h2 5
  have h4 := ok_count (P := l.prog) (w := w) (base := base) T0 D_law_count B_law_count 5
  have h5 := ok_good (d := 3) T0 D_law_good B_law_good h3 h4
  have h6 := ok_far T0 D_law_far B_law_far h2
  exact ok_law T D_law h1 h5 (ok_delays T0 D_law_delays B_law_delays h2 5) (ok_spoilt T0 D_law_spoilt B_law_spoilt h2 h6) (ok_first (P := l.prog) (w := w) (base := base) T0 D_law_first B_law_first 5) (ok_same T0 D_law_same B_law_same 3) (ok_told T TB TE D_law_told B_law_told g5)
theorem walk {l : PySem.W.OpenLaw} {q : Program} {loose : List Str} {XP : (Str → Option Value) → Heap → Prop} {YP : World → Heap → Prop} {d : DefRec} {K : Params → PySem.W.Frag} (hn : l.most = some 63) (hdf : d.params.defaults = [])
    (hY : ∀ (w : World) (h : Heap), YP w h → (K w.params).In h)
    (F : ∀ (w : World) (mg : Str → Option Value) (fa : Addr) (h : Heap), (K w.params).In h → h.Ns mainGlobals mg → mg d.name = some (.ref fa) →
      ∃ fd : FuncData, (∀ (s : Shared) (v : Value), BindsTo s fd ⟨[v], []⟩ [("_law_script", v)]) ∧ ∀ base : Heap, (K w.params).In base → base.Ns mainGlobals mg → FnOk l.prog w (K w.params) mg base C8.CX0 11 fa fd ["_law_script"] (sp_law (K w.params))) :
    PySem.W.WalkO q loose XP YP l.row.toRowW d [] (fun f vs => PySem.call f vs) :=
  L2.walk_ofK (n := 63) (k := 11) (CX := C8.CX0) (sp := sp_law) hn (by decide) hdf ⟨rfl, by decide, by decide⟩ hY F (fun K H a ns hl _ hS => ⟨a, ns, rfl, hS, hl, fun _ => rfl⟩) fun _ _ _ _ z => z
end K04
open PySem PySem.W PyProof.Rows
set_option maxRecDepth 100000 in
set_option maxHeartbeats 0 in
theorem PySem.Challenge.cw_windowdog_k04_delays_refused_holds : PySem.Challenge.rw_windowdog_k04_delays_refused.Holds := by
  w_on; o_law; k_head; (case hw => w_witness2)
  k_fill
  refine K04.walk (l := PySem.Challenge.rw_windowdog_k04_delays_refused) rfl rfl (fun w h Y => PySem.W.kIn_of Y) ?F
  case F =>
    intro w mg fa h KX G hmg
    refine' K04.law_at KX G hmg ?a_is_number ?l_is_number ?c_is_number ?k_is_number ?a_is_range ?l_is_range ?c_is_range ?k_is_range ?a_has_form ?l_has_form ?c_has_form ?k_has_form ?a_plans_in ?l_plans_in ?c_plans_in ?k_plans_in ?a_check_plan ?l_check_plan ?c_check_plan ?k_check_plan ?a_run_plan ?l_run_plan ?c_run_plan ?k_run_plan ?a_law_start ?l_law_start ?c_law_start ?k_law_start ?a_law_drawn ?l_law_drawn ?c_law_drawn ?k_law_drawn ?a_law_same ?l_law_same ?c_law_same ?k_law_same ?a_law_far ?l_law_far ?c_law_far ?k_law_far ?a_law_plan ?l_law_plan ?c_law_plan ?k_law_plan ?a_law_count ?l_law_count ?c_law_count ?k_law_count ?a_law_good ?l_law_good ?c_law_good ?k_law_good ?a_law_delays ?l_law_delays ?c_law_delays ?k_law_delays ?a_law_first ?l_law_first ?c_law_first ?k_law_first ?a_law_spoilt ?l_law_spoilt ?c_law_spoilt ?k_law_spoilt ?a_law_told ?l_law_told ?c_law_told ?k_law_told ?a_law ?l_law ?c_law ?k_law ?aC_Run ?a_Run_init ?i_Run_init ?l_Run_init ?c_Run_init ?k_Run_init ?a_Run_take ?i_Run_take ?l_Run_take ?c_Run_take ?k_Run_take ?a_Run_follow ?i_Run_follow ?l_Run_follow ?c_Run_follow ?k_Run_follow ?pg_Run ?hdd_Run ?po_Run ?sa_Run ?mk_Run ?kc_Run ?n_Run_delays ?n_Run_used ?n_Run_now ?n_Run_pats ?z_isinstance ?z_ValueError ?z_len ?z_int ?z_bool ?z_range ?z_list ?z_tuple ?z_str ?z_sum ?q_LONGEST_WORK ?q_MOST_TIMES ?q_LONGEST_ROW ?q_MOST_PLANS ?q_MOST_DEEP ?q_MOST_LOOPS ?aD ?aC0 ?aC1 ?aC2 ?aC3 ?aC4 ?aC5 ?aC6 ?aC7 ?aC8 ?bD ?hD ?tD ?xL ?saB ?a_BadDelays_init ?tI ?l_BadDelays_init ?c_BadDelays_init ?rdD ?gaD ?vVD ?naB ?kkB ?bB ?tB ?hgB ?hkB ?hdB ?haB ?hmB ?xnB ?xtB ?sDB ?kvB ?kiB_0 ?kiB_1 ?kiB_2 ?kiB_3 ?kiB_4 ?kiB_5 ?kiB_6 ?kiB_7 ?kiB_8
    (case a_is_number => k_is)
    (case l_is_number => k_is)
    (case c_is_number => k_is)
    (case k_is_number => k_is)
    (case a_is_range => k_is)
    (case l_is_range => k_is)
    (case c_is_range => k_is)
    (case k_is_range => k_is)
    (case a_has_form => k_is)
    (case l_has_form => k_is)
    (case c_has_form => k_is)
    (case k_has_form => k_is)
    (case a_plans_in => k_is)
    (case l_plans_in => k_is)
    (case c_plans_in => k_is)
    (case k_plans_in => k_is)
    (case a_check_plan => k_is)
    (case l_check_plan => k_is)
    (case c_check_plan => k_is)
    (case k_check_plan => k_is)
    (case a_run_plan => k_is)
    (case l_run_plan => k_is)
    (case c_run_plan => k_is)
    (case k_run_plan => k_is)
    (case a_law_start => k_is)
    (case l_law_start => k_is)
    (case c_law_start => k_is)
    (case k_law_start => k_is)
    (case a_law_drawn => k_is)
    (case l_law_drawn => k_is)
    (case c_law_drawn => k_is)
    (case k_law_drawn => k_is)
    (case a_law_same => k_is)
    (case l_law_same => k_is)
    (case c_law_same => k_is)
    (case k_law_same => k_is)
    (case a_law_far => k_is)
    (case l_law_far => k_is)
    (case c_law_far => k_is)
    (case k_law_far => k_is)
    (case a_law_plan => k_is)
    (case l_law_plan => k_is)
    (case c_law_plan => k_is)
    (case k_law_plan => k_is)
    (case a_law_count => k_is)
    (case l_law_count => k_is)
    (case c_law_count => k_is)
    (case k_law_count => k_is)
    (case a_law_good => k_is)
    (case l_law_good => k_is)
    (case c_law_good => k_is)
    (case k_law_good => k_is)
    (case a_law_delays => k_is)
    (case l_law_delays => k_is)
    (case c_law_delays => k_is)
    (case k_law_delays => k_is)
    (case a_law_first => k_is)
    (case l_law_first => k_is)
    (case c_law_first => k_is)
    (case k_law_first => k_is)
    (case a_law_spoilt => k_is)
    (case l_law_spoilt => k_is)
    (case c_law_spoilt => k_is)
    (case k_law_spoilt => k_is)
    (case a_law_told => k_is)
    (case l_law_told => k_is)
    (case c_law_told => k_is)
    (case k_law_told => k_is)
    (case a_law => k_is)
    (case l_law => k_is)
    (case c_law => k_is)
    (case k_law => k_is)
    (case aC_Run => k_is)
    (case a_Run_init => k_is)
    (case i_Run_init => k_is)
    (case l_Run_init => k_is)
    (case c_Run_init => k_is)
    (case k_Run_init => k_is)
    (case a_Run_take => k_is)
    (case i_Run_take => k_is)
    (case l_Run_take => k_is)
    (case c_Run_take => k_is)
    (case k_Run_take => k_is)
    (case a_Run_follow => k_is)
    (case i_Run_follow => k_is)
    (case l_Run_follow => k_is)
    (case c_Run_follow => k_is)
    (case k_Run_follow => k_is)
    (case pg_Run => k_is)
    (case hdd_Run => k_is)
    (case po_Run => k_is)
    (case sa_Run => k_is)
    (case mk_Run => k_is)
    (case kc_Run => k_is)
    (case n_Run_delays => k_is)
    (case n_Run_used => k_is)
    (case n_Run_now => k_is)
    (case n_Run_pats => k_is)
    (case z_isinstance => k_is)
    (case z_ValueError => k_is)
    (case z_len => k_is)
    (case z_int => k_is)
    (case z_bool => k_is)
    (case z_range => k_is)
    (case z_list => k_is)
    (case z_tuple => k_is)
    (case z_str => k_is)
    (case z_sum => k_is)
    (case q_LONGEST_WORK => k_is)
    (case q_MOST_TIMES => k_is)
    (case q_LONGEST_ROW => k_is)
    (case q_MOST_PLANS => k_is)
    (case q_MOST_DEEP => k_is)
    (case q_MOST_LOOPS => k_is)
    (case aD => k_is)
    (case aC0 => k_is)
    (case aC1 => k_is)
    (case aC2 => k_is)
    (case aC3 => k_is)
    (case aC4 => k_is)
    (case aC5 => k_is)
    (case aC6 => k_is)
    (case aC7 => k_is)
    (case aC8 => k_is)
    (case bD => k_is)
    (case hD => k_is)
    (case tD => k_is)
    (case xL => k_is)
    (case saB => k_is)
    (case a_BadDelays_init => k_is)
    (case tI => k_is)
    (case l_BadDelays_init => k_is)
    (case c_BadDelays_init => k_is)
    (case rdD => k_is)
    (case gaD => k_is)
    (case vVD => k_is)
    (case naB => k_is)
    (case kkB => k_is)
    (case bB => k_is)
    (case tB => k_is)
    (case hgB => k_is)
    (case hkB => k_is)
    (case hdB => k_is)
    (case haB => k_is)
    (case hmB => k_is)
    (case xnB => k_is)
    (case xtB => k_is)
    (case sDB => k_is)
    (case kvB => kernel_rfl)
    (case kiB_0 => kernel_rfl)
    (case kiB_1 => kernel_rfl)
    (case kiB_2 => kernel_rfl)
    (case kiB_3 => kernel_rfl)
    (case kiB_4 => kernel_rfl)
    (case kiB_5 => kernel_rfl)
    (case kiB_6 => kernel_rfl)
    (case kiB_7 => kernel_rfl)
    (case kiB_8 => kernel_rfl)
