import PyProof.Rows.All
import Wide.All
import OpenK.AllK
import Wide.FinOn
import KE.KStateDown
import Lean
import HandS.Base
import HandS.Call
import HandS.List
import HandS.Comp
import HandS.Ends
import HandS.Dict
import HandS.Iter
import HandS.Exc
import HandS.TryOnly
import HandS.ExcOwn
import HandS.Words
import HandS.WordsList
import HandS.WordsDict
import HandS.WordsExc
import HandS.Wide
import HandS.IsInst
import HandS.ExcIs
import HandS.Defaults
import HandS.More
import HandS.Star
import HandS.ClsMeth
import HandS.MakeKw
import HandS.MakeKwOnly
import HandS.Conv
import HandS.TupMul
import HandS.TupLe
import HandS.Flow
import HandS.Zip
import HandS.CallLocal
import HandS.Head0
import HandS.Head1
import HandS.Head2
import HandS.HeadEnd
import HandS.HeadHook1
import HandS.HeadHook2
import PyProof.ReprLen
import HandS.TupAny
import HandS.Style
import HandS.Codes
import PySem.Challenge.RW_sampleweave_k15_counts_and_tapes
set_option Elab.async false
set_option linter.all false
set_option maxRecDepth 100000
set_option maxHeartbeats 0
namespace L2
open PySem PySem.Spec PyProof.Rows
/-! ## Own words, 1: defs that are called where no repr is under way -/
/-- as FnOk, but called only while no guard (a repr under way) is around -/
structure FnG (P : Program) (w : World) (K : PySem.W.Frag) (mg : Str → Option Value) (base : Heap) (CX : CXT) (k : Nat) (f : Addr) (fd : FuncData) (ps : List Str) (sp : Sp) : Prop where
  size : ∀ vs H Q E, sp vs H Q E → vs.length = ps.length
  goes : ∀ (A : Around) (outer : List Env) (s : Shared) (H : Hp) (args : Args) (us : List Value) (vs : List V) (Q : VK) (E : XK), Room k A → A.guards = some [] → Env0 P w K mg base A outer s H →
    BindsTo s fd args (ps.zip us) → Vals vs us → sp vs H Q E → codeAny (model P w) A (.call (.ref f) args) (CR CX outer P w H s Q E) s
section
variable {P : Program} {w : World} {K : PySem.W.Frag} {mg : Str → Option Value} {base : Heap} {CX : CXT} {k : Nat} {f : Addr} {fd : FuncData} {ps N : List Str} {sp : Sp} {x qual : Str} {params : Arguments} {body : List Stmt} {scope : Scope} {dvs : List V} {kws : List (Str × V)}
/-- a def's body, where the guards are known -/
theorem FunD.okG (F : FunD K x qual params body scope dvs kws f fd) (S : FnScope N ps scope) (size : ∀ vs H Q E, sp vs H Q E → vs.length = ps.length)
    (does : ∀ (cdv : Value) (A : Around) (outer : List Env) (s : Shared) (H : Hp) (vs : List V) (Q : VK) (E : XK), Room k (A.deeper (envOfC qual scope s.heap.objs.size f cdv)) → A.guards = some [] → sp vs H Q E →
      ∃ t, PSs (cxOf CX P w K mg base N qual scope f cdv A outer s H E) body t ∧ t { nx := fun _ H' => Q .non H', rt := Q } (start N vs) H) : FnG P w K mg base CX (k + 1) f fd ps sp := by
  obtain ⟨oc, od, dV, kV, doc, pm, an, cdv, ct, osl, rfl, lk, hcd, _, _⟩ := F.ex
  refine ⟨size, fun A outer s H args us vs Q E room guard env bind rel prom => ?_⟩
  have only : StX.Bnd CX P w K mg base (PySem.W.fnOf x qual params body scope dV kV doc pm an cdv ct) args ps A outer s H E (fun vs' H' => vs' = vs ∧ H' = H) :=
    fun A' Ex Q' h' => bind _ _ _ _ (h' s H vs us env Un.refl rfl (fun _ _ z => z) rel (size _ _ _ _ prom) ⟨rfl, rfl⟩)
  refine StX.run_bnd (k := k) lk hcd S room env only fun s2 H2 vs2 same room2 => ?_
  obtain ⟨rfl, rfl⟩ := same
  exact does cdv A outer s2 H2 vs2 Q E room2 guard prom
/-- a plain def is one of these too -/
theorem FnOk.toG (F : FnOk P w K mg base CX k f fd ps sp) : FnG P w K mg base CX k f fd ps sp := ⟨F.len, fun A outer s H args us vs Q E room _ env bind rel prom => F.run A outer s H args us vs Q E room env bind rel prom⟩
end
section
variable {X : Cx} {CX : CXT} {k i : Nat} {f : Addr} {fd : FuncData} {ps : List Str} {sp : Sp} {dvs : List V} {ds : List Value} {E : XK} {x : Str} {p pos : Pos} {e : Expr} {es : List Expr} {t : TA}
theorem goes_fn {pins : List (Addr × Obj)} {σ : St} {H : Hp} {s : Shared} {Q : VK} {us : List Value} {vs : List V} (F : FnG X.prog X.w X.K X.mg X.base CX k f fd ps sp) (room : Room k X.A) (guard : X.A.guards = some []) (hb : Binds X.K fd ps ds) (hd : Vals dvs ds)
    (hx : Passes CX X E) (I : Inv X pins σ H s) (rel : Vals vs us) (prom : sp (vs ++ dvs) H Q E) : wpAny (model X.prog X.w) X.A (call (.ref f) us) (EP X pins σ Q) X.xe s := by
  have both := rel.append hd
  have many : (us ++ ds).length = ps.length := both.length.symm.trans (F.size _ _ _ _ prom)
  refine wpAny_call (codeAny_mono (F.goes X.A X.stack s H ⟨us, []⟩ (us ++ ds) (vs ++ dvs) Q E room guard I.env0 (hb s us I.kIn many) both prom) ?_)
  rintro (_ | u | _ | _ | _ ) s' z
  all_goals first
    | exact hx pins σ H s _ s' I z
    | exact I.after z
    | exact z.elim
theorem pe_callG (F : FnG X.prog X.w X.K X.mg X.base CX k f fd ps sp) (room : Room k X.A) (guard : X.A.guards = some []) (hg : Gl X x) (hm : X.mg x = some (.ref f)) (hk : PySem.W.keepIn X.K (.ref f) = true) (hb : Binds X.K fd ps ds) (hd : Vals dvs ds)
    (hx : Passes CX X E) (ha : PA X (e :: es) t) (hdb : (x == ("__debug__" : Str)) = false := by decide) (he : starEach (e :: es) X.env = (false, eval e X.env) :: starEach es X.env := by rfl)
    (hpl : (backTo pos (starEach es X.env)).any (·.1) = false := by rfl) : PE X (.Call (.Name x p) (e :: es) [] pos) (tCall sp dvs E t) := by
  refine ⟨fun pins s σ H Q I h => wpAny_Call_Name_kw (ld_glob I hg hm ?_ hdb)⟩
  exact PySem.W.callWith_K (h₀ := X.base) I.ok.mod.kin hk (thn (ha.run pos pins s σ H _ I h) fun us s1 ⟨vs, H1, I1, r, q⟩ => ⟨I1.kIn, goes_fn F room guard hb hd hx I1 r q⟩) he hpl
end
/-- the law's call, its def being one of these -/
theorem law_goes {P : Program} {w : World} {K : PySem.W.Frag} {mg mb : Str → Option Value} {CX : CXT} {k : Nat} {fa a : Addr} {fd : FuncData} {x : Str} {sp : Sp} {s₁ : Shared} {vs : List Value} {ns : List Int}
    (inK : K.In s₁.heap) (glob : s₁.heap.Ns mainGlobals mg) (blt : s₁.heap.Ns builtinsNs mb) (boot : ∀ x : Str, x ≠ "__name__" → mb x = bootBuiltins x) (lim : s₁.heap.NoLimit) (gens : s₁.gens = #[])
    (scr : s₁.heap.get? a = some { cls := .type "list", data := .seq vs.toArray }) (nums : IntsAre vs ns) (few : ns.length ≤ sizeLine) (room : Room k callerA)
    (F : ∀ base : Heap, K.In base → base.Ns mainGlobals mg → FnG P w K mg base CX k fa fd [x] sp) (bind : ∀ (s : Shared) (u : Value), BindsTo s fd ⟨[u], []⟩ [(x, u)])
    (prom : ∀ H : Hp, Only H → SqL K H a (ns.map V.int) → sp [.ref a] H (fun v _ => v = .bl true) fun _ _ _ => False) (none_out : ∀ H e s', CX [] H s₁ (fun _ _ _ => False) e s' → False) :
    codeAny (model P w) callerA (.call (.ref fa) ⟨[.ref a], []⟩) (fun r s' => r = .ok (.ret (.bool true)) ∧ OldK s₁.heap s'.heap ∧ s'.os = s₁.os ∧ AllBare s'.gens) s₁ := by
  have rel := vals_ints nums
  have from_heap : ∀ H : Hp, (∀ b, H b = none ∨ (b = a ∧ K.lookup a = none ∧ H b = some (.frz { cls := .type "list", data := .seq vs.toArray } (.lst (ns.map V.int))))) → SqL K H a (ns.map V.int) →
      codeAny (model P w) callerA (.call (.ref fa) ⟨[.ref a], []⟩) (fun r s' => r = .ok (.ret (.bool true)) ∧ OldK s₁.heap s'.heap ∧ s'.os = s₁.os ∧ AllBare s'.gens) s₁ := by
    intro H which seen
    have small : Only H := fun b => (which b).imp id fun z => ⟨_, _, z.2.2⟩
    have space : ∀ {b : Addr} {m : Str → Option Value}, s₁.heap.Ns b m → (hidT s₁.heap H).Ns b m := by
      rintro b m ⟨o, es, ep, e, d, r⟩
      refine ⟨o, es, ep, hidT_get e ((which b).resolve_right fun ⟨eb, _⟩ => ?_), d, r⟩
      rw [eb, scr] at e
      cases e
      cases d
    have written : K.In (hidT s₁.heap H) := fun b o e => hidT_get (inK b o e) ((which b).resolve_right fun ⟨eb, n, _⟩ => by
      rw [eb, n] at e
      cases e)
    have fits : HOk P w H s₁.heap := fun b u z => by
      rcases which b with n | ⟨rfl, _, n⟩
      · rw [n] at z
        cases z
      · rw [n] at z
        cases z
        exact ⟨scr, by rw [List.length_map]; exact few, vs, _, rel, scr⟩
    obtain ⟨mc, c1, c2⟩ := lim
    have env : Env0 P w K mg (hidT s₁.heap H) callerA [] s₁ H :=
      ⟨rfl, ⟨written, space glob, ⟨mb, space blt, boot⟩, mc, space c1, c2⟩, fun _ _ e => of_hidT e, Nat.le_of_eq (hidT_size _ _), trivial, fun _ z => (List.not_mem_nil z).elim, fits, .of_eq gens⟩
    refine codeAny_mono ((F _ written (space glob)).goes callerA [] s₁ H ⟨[.ref a], []⟩ [.ref a] [.ref a] _ _ room rfl env (bind s₁ (.ref a)) (.cons rfl .nil) (prom H small seen)) ?_
    intro res s' z
    match res, z with
    | .error e, z => exact (none_out H e s' z).elim
    | .ok .next, z => exact z.elim
    | .ok .brk, z => exact z.elim
    | .ok .cont, z => exact z.elim
    | .ok (.ret u), z =>
      obtain ⟨v, H', os, bare, un, fits', rv, (rfl : v = V.bl true)⟩ := z
      obtain rfl : u = Value.bool true := rv
      refine ⟨rfl, OldK.of_keep fun b o e => ?_, os, bare⟩
      rcases which b with n | ⟨_, _, n⟩
      · exact un.keep b o e n (fun z => (List.not_mem_nil z).elim) List.not_mem_nil
      · obtain ⟨e1, _⟩ := fits b _ n
        obtain ⟨e2, _⟩ := fits' b _ (un.frzs b _ _ n)
        rw [e] at e1
        cases e1
        exact e2
  by_cases own : K.lookup a = none
  · refine from_heap (fun b => if b = a then some (.frz { cls := .type "list", data := .seq vs.toArray } (.lst (ns.map V.int))) else none) (fun b => ?_) (.inl (.inr ⟨_, if_pos rfl⟩))
    by_cases eb : b = a
    · exact .inr ⟨eb, own, if_pos eb⟩
    · exact .inl (if_neg eb)
  · obtain ⟨o, own⟩ := Option.ne_none_iff_exists'.mp own
    have e := inK a o own
    rw [scr] at e
    cases e
    exact from_heap (fun _ => none) (fun _ => .inl rfl) (.inr ⟨_, vs.toArray, _, own, rfl, rfl, rfl, by rw [List.size_toArray, nums.length]; exact few, by simpa using rel⟩)
theorem walk_goes {l : PySem.W.OpenLaw} {n k : Nat} {q : Program} {loose : List Str} {XP : (Str → Option Value) → Heap → Prop} {YP : World → Heap → Prop} {d : DefRec} {CX : CXT} {x : Str}
    (most : l.most = some n) (few : n ≤ sizeLine) (nodef : d.params.defaults = []) (room : Room k callerA)
    (F : ∀ (w : World) (mg : Str → Option Value) (fa : Addr) (h : Heap), YP w h → h.Ns mainGlobals mg → mg d.name = some (.ref fa) →
      ∃ (K : PySem.W.Frag) (fd : FuncData) (sp : Sp), K.In h ∧ (∀ (s : Shared) (u : Value), BindsTo s fd ⟨[u], []⟩ [(x, u)]) ∧
        (∀ (H : Hp) (a : Addr) (ns : List Int), ns.length ≤ n → Only H → SqL K H a (ns.map V.int) → sp [.ref a] H (fun v _ => v = .bl true) fun _ _ _ => False) ∧
        ∀ base : Heap, K.In base → base.Ns mainGlobals mg → FnG l.prog w K mg base CX k fa fd [x] sp)
    (none_out : ∀ (H : Hp) (s : Shared) (e : Value) (s' : Shared), CX [] H s (fun _ _ _ => False) e s' → False) : PySem.W.WalkO q loose XP YP l.row.toRowW d [] (fun f vs => PySem.call f vs) := by
  refine Att.attach_call most nodef ?_
  intro w s₀ s₁ mg mb fa o pm cd doc a vs ns G Y ho hd hcd named obj nums len gens
  obtain ⟨K, fd, sp, inK, bind, prom, does⟩ := F w mg fa _ Y G.T.g named
  exact law_goes inK G.T.g G.T.b G.T.builtins G.T.nolimit gens obj nums (Nat.le_trans len few) room does bind (fun H hO hS => prom H a ns len hO hS) fun H e s' => none_out H s₁ e s'
end L2
namespace L2
open PySem PySem.Spec PyProof.Rows
/-! ## Own words, 2: repr of data; a base class's def called by the class's name -/
section
variable {X : Cx}
/-- repr(x), x a list or a tuple of data -/
def rReprD (K : PySem.W.Frag) : List V → Hp → VK → Prop := fun xs H Q => ∃ (a : Addr) (d : PyData) (S : Str), xs = [.ref a] ∧ Dp K H (.ref a) d ∧ SeqAt.shaped d = true ∧ d.showable = true ∧ d.shown.length ≤ sizeLine ∧ d.shown = S ∧ Q (.str S) H
theorem call_reprD (guard : X.A.guards = some []) (units : X.A.units + 66 < cLine) : CallR X (.builtin "repr") (rReprD X.K) := by
  intro pins s σ H xs us Q I r h
  obtain ⟨a, d, S, rfl, dp, sh, sw, sz, rfl, q⟩ := h
  obtain ⟨u, rfl, ru⟩ := vals1 r
  obtain rfl : u = Value.ref a := ru
  obtain ⟨as, rd⟩ := Dp.reads I d _ _ dp rfl
  have dep := SeqAt.depth_of_shaped sh
  exact repr_of_reads' rd sw (PyData.noDict_hsm (PyData.hasDict_of_canLay d (SeqAt.canLay_of_shaped sh))) guard (by omega) (fun _ _ e => e) (fun h' u tk hk => ⟨.str d.shown, H, I.kept (t' := tk) hk, ⟨u, rfl⟩, q⟩) sz
/-- C.m(e, ..), C a class of one's own by name, m a def of its body -/
structure BaseM (K : PySem.W.Frag) (C : Addr) (m : Str) (f : Addr) : Prop where
  rd : PySem.W.readsIn K C (.type "type") = true
  ga : PySem.W.specialIn K (.ref C) "__getattribute__" = some (some (.builtin "type.__getattribute__"))
  at_ : PySem.W.findCls K (.ref C) (.type "type") m = some (.val (.ref f))
  kp : PySem.W.keepIn K (.ref f) = true
variable {CX : CXT} {k : Nat} {f C : Addr} {fd : FuncData} {ps : List Str} {sp : Sp} {dvs : List V} {ds : List Value} {E : XK} {x m : Str} {p pos apos : Pos} {e o : Expr} {es : List Expr} {ta : TE} {t : TA}
def tBase (C : Addr) (sp : Sp) (dvs : List V) (E : XK) (ta : TE) (t : TA) : TE := fun σ H Q => ta σ H fun x H1 => x = .ref C ∧ t σ H1 fun vs H2 => sp (vs ++ dvs) H2 Q E
theorem pe_base {pl : Sem Bool} (ho : PE X o ta) (b : BaseM X.K C m f) (F : FnOk X.prog X.w X.K X.mg X.base CX k f fd ps sp) (room : Room k X.A) (hb : Binds X.K fd ps ds) (hd : Vals dvs ds) (hx : Passes CX X E) (ha : PA X (e :: es) t)
    (hst : starEach (e :: es) X.env = (false, eval e X.env) :: starEach es X.env := by rfl) (hpl : (backTo pos (starEach es X.env)).any (·.1) = false := by rfl)
    (ht : eval (.Call (.Attribute o m apos) (e :: es) [] pos) X.env = (do
      let ov ← eval o X.env
      standAt apos.atName
      let (f, first) ← holding [ov] (getMethod ov m pl)
      callWith pos f first (backTo pos (starEach (e :: es) X.env)) (backToKw pos (keywordEach [] X.env))) := by rfl) :
    PE X (.Call (.Attribute o m apos) (e :: es) [] pos) (tBase C sp dvs E ta t) := by
  refine ⟨fun pins s σ H Q I h => ?_⟩
  refine PySem.W.methodCall_KW (pl := pl) (thn (ho.run pins s σ H _ I h) fun u s1 ⟨x, H1, I1, rx, ex, q⟩ => ?_) ht
  subst ex
  obtain rfl : u = Value.ref C := rx
  refine PySem.W.method_cls I1.kIn b.ga (PySem.W.cls_value I1.kIn b.rd b.at_ rfl ?_)
  have I2 := I1.tok (s1.toks + 1)
  exact PySem.W.callWith_K (first := []) (h₀ := X.base) I.ok.mod.kin b.kp (thn (ha.run pos pins _ σ H1 _ I2 q) fun us s2 ⟨vs, H2, I3, r, q2⟩ => ⟨I3.kIn, run_fn F room hb hd hx I3 r q2⟩) hst hpl
end
/-! ### how long a repr is -/
theorem shown_sum {B : Nat} : ∀ ds : List PyData, (∀ d ∈ ds, d.shown.length ≤ B) → ((PyData.shownAll ds).map (·.length)).sum ≤ B * ds.length
  | [], _ => by rw [PyData.shownAll]; exact Nat.zero_le _
  | d :: ds, h => by
    have h1 := h d List.mem_cons_self
    have h2 := shown_sum ds fun z hz => h z (List.mem_cons_of_mem _ hz)
    rw [PyData.shownAll, List.map_cons, List.sum_cons, List.length_cons, Nat.mul_succ]
    omega
theorem shown_list {B : Nat} {ds : List PyData} (h : ∀ d ∈ ds, d.shown.length ≤ B) : (PyData.shown (.list ds)).length ≤ (B + 2) * ds.length + 3 := by
  have h1 := shown_sum ds h
  have h2 := listText_len_le (PyData.shownAll ds)
  rw [PyData.shownAll_length] at h2
  rw [PyData.shown, Nat.add_mul]
  omega
theorem shown_tuple {B : Nat} {ds : List PyData} (h : ∀ d ∈ ds, d.shown.length ≤ B) : (PyData.shown (.tuple ds)).length ≤ (B + 2) * ds.length + 3 := by
  have h1 := shown_sum ds h
  have h2 := tupleText_len_le (PyData.shownAll ds)
  rw [PyData.shownAll_length] at h2
  rw [PyData.shown, Nat.add_mul]
  omega
theorem shown_num {i : Int} (h : i.natAbs.log2 < 1920) : (PyData.shown (.int i)).length ≤ 1921 := by
  exact int_text_len_1921 h
theorem log2_of {i : Int} {b : Nat} (h : i.natAbs < 2 ^ b) (h0 : 0 < b) (h1 : b ≤ 1920) : i.natAbs.log2 < 1920 := Nat.lt_of_lt_of_le (PySem.Flt.log2_lt_of h0 h) h1
end L2
namespace L2
open PySem PySem.Spec PyProof.Rows
/-! ## Own words, 3: a method called in a try; a local that holds one of some defs -/
section
variable {X : Cx} {CX : CXT} {k i : Nat} {f C : Addr} {fd : FuncData} {ps : List Str} {sp : Sp} {E : St → XK} {x m : Str} {p pos apos : Pos} {e o : Expr} {es : List Expr} {ta : TE} {t : TA}
def tMethT (C : Addr) (m : Str) (sp : Sp) (E : St → XK) (ta : TE) (t : TA) : TE := fun σ H Q => ta σ H fun x H1 => ∃ a dx fs, x = .ref a ∧ H1 a = some (.ins C dx fs) ∧ fs.lookup m = none ∧ t σ H1 fun vs H2 => sp (x :: vs) H2 Q (E σ)
theorem pe_methT {pl : Sem Bool} (ho : PE X o ta) (c : Cls X.K C) (hm : Meth X.K C m f) (F : FnOk X.prog X.w X.K X.mg X.base CX k f fd ps sp) (room : Room k X.A) (hb : Binds X.K fd ps []) (hx : ∀ σ, PassesAt CX X σ (E σ)) (ha : PA X (e :: es) t)
    (hst : starEach (e :: es) X.env = (false, eval e X.env) :: starEach es X.env := by rfl) (hpl : (backTo pos (starEach es X.env)).any (·.1) = false := by rfl)
    (ht : eval (.Call (.Attribute o m apos) (e :: es) [] pos) X.env = (do
      let ov ← eval o X.env
      standAt apos.atName
      let (f, first) ← holding [ov] (getMethod ov m pl)
      callWith pos f first (backTo pos (starEach (e :: es) X.env)) (backToKw pos (keywordEach [] X.env))) := by rfl) :
    PE X (.Call (.Attribute o m apos) (e :: es) [] pos) (tMethT C m sp E ta t) := by
  refine ⟨fun pins s σ H Q I h => ?_⟩
  refine PySem.W.methodCall_KW (pl := pl) (thn (ho.run pins s σ H _ I h) fun u s1 ⟨x, H1, I1, rx, a, dx, fs, ex, ea, l, q⟩ => ?_) ht
  subst ex
  obtain rfl : u = Value.ref a := rx
  refine getmeth_ok I1 ea c hm l (PySem.W.callWith_K (first := [.ref a]) (h₀ := X.base) I.ok.mod.kin hm.kp (thn (ha.run pos pins s1 σ H1 _ I1 q) fun us s2 ⟨vs, H2, I2, r, q2⟩ => ⟨I2.kIn, ?_⟩) hst hpl)
  exact run_fnS (us := .ref a :: us) (vs := .ref a :: vs) F room hb (hx σ) I2 (.cons rfl r) q2
/-- the i-th slot holds one of these defs, all of one promise -/
def tOneOf (i : Nat) (fs : List Addr) (sp : Sp) (t : TA) : TE := fun σ H Q => ∃ f, f ∈ fs ∧ σ[i]? = some (some (.ref f)) ∧ t σ H fun vs H1 => sp vs H1 Q E0
theorem pe_oneOf {fs : List Addr} (F : ∀ f, f ∈ fs → ∃ fd ps, FnG X.prog X.w X.K X.mg X.base CX0 k f fd ps sp ∧ PySem.W.keepIn X.K (.ref f) = true ∧ Binds X.K fd ps []) (room : Room k X.A) (guard : X.A.guards = some []) (hN : X.N[i]? = some x) (hv : Vis X.env.scope x) (ha : PA X (e :: es) t)
    (hdb : (x == ("__debug__" : Str)) = false := by decide) (hcd : (x == ("__classdict__" : Str)) = false := by decide) (he : starEach (e :: es) X.env = (false, eval e X.env) :: starEach es X.env := by rfl)
    (hpl : (backTo pos (starEach es X.env)).any (·.1) = false := by rfl) : PE X (.Call (.Name x p) (e :: es) [] pos) (tOneOf i fs sp t) := by
  refine ⟨fun pins s σ H Q I h => ?_⟩
  obtain ⟨f, hf, hs, q0⟩ := h
  obtain ⟨fd, ps, G, kp, hb⟩ := F f hf
  have look := (pe_var (pos := p) hN hv hdb hcd).run pins s σ H (fun v H1 => v = .ref f ∧ H1 = H) I ⟨.ref f, hs, rfl, rfl⟩
  refine wpAny_Call_Name_kw (thn look fun u s1 ⟨v, H1, I1, r1, ev, eH⟩ => ?_)
  subst ev eH
  obtain rfl : u = Value.ref f := r1
  refine PySem.W.callWith_K (h₀ := X.base) I.ok.mod.kin kp (thn (ha.run pos pins s1 σ _ _ I1 q0) fun us s2 ⟨vs, H2, I2, r, q⟩ => ⟨I2.kIn, ?_⟩) he hpl
  exact goes_fn (dvs := []) (E := E0) G room guard hb .nil pass0 I2 r (by rw [List.append_nil]; exact q)
end
end L2
namespace L2
open PySem PySem.Spec PyProof.Rows
/-! ## Own words, 4: a tuple times 0 or 1 -/
theorem tup_once (l : Addr) (items : Array Value) (n : Nat) (dd : Option Addr) (sl : Array (Option Value)) (u : Tok) :
    Meets (Builtin.«tuple.__mul__» ⟨[.ref l, .int 1 u], []⟩) (fun _ R s => s.heap.get? l = some { cls := .type "tuple", dict := dd, data := .seq items n, slots := sl } ∧ R (.ok (.ret (Value.ref l))) s) :=
  .of_wp fun prog w A R s h => by
    obtain ⟨hp, g, d, tk, os⟩ := s
    obtain ⟨at_, h⟩ := h
    have f1 := AutoSeq1.idx_int
    wp_walk using wpAny_loadPart' at_
    exact ⟨_, rfl, h⟩
theorem tup_never (l : Addr) (items : Array Value) (n : Nat) (dd : Option Addr) (sl : Array (Option Value)) (u : Tok) (c1 : items.isEmpty = false) :
    Meets (Builtin.«tuple.__mul__» ⟨[.ref l, .int 0 u], []⟩) (fun _ R s => s.heap.get? l = some { cls := .type "tuple", dict := dd, data := .seq items n, slots := sl } ∧ R (.ok (.ret (Value.ref s.heap.objs.size))) { s with heap := s.heap.push { cls := Value.type "tuple", data := Data.seq #[] }, toks := s.toks }) :=
  .of_wp fun prog w A R s h => by
    obtain ⟨hp, g, d, tk, os⟩ := s
    obtain ⟨at_, h⟩ := h
    have f1 := AutoSeq1.idx_int
    wp_walk using wpAny_loadPart' at_
    exact ⟨_, rfl, h⟩
/-- t * k, t a tuple that holds something, k from 0 on -/
def rTimes (K : PySem.W.Frag) : R2 := fun x y H Q => ∃ (l : Addr) (k : Nat) (xs : List V), x = .ref l ∧ y = .int (k : Int) ∧ SqT K H l xs ∧ xs ≠ [] ∧ k ≤ 1000 ∧ xs.length ≤ 1000 ∧ (k = 1 → Q (.ref l) H) ∧ (k ≠ 1 → ∀ p, H p = none → Q (.ref p) (upd H p (.tup (List.replicate k xs).flatten)))
theorem op_times {X : Cx} : OpR X (binaryOp .Mult) (rTimes X.K) := by
  intro pins s σ H x y v u Q I rx ry h
  obtain ⟨l, k, xs, rfl, rfl, hT, hne, h2, hz, q1, qn⟩ := h
  by_cases two : 2 ≤ k
  · exact op_repT pins s σ H _ _ v u Q I rx ry ⟨l, (k : Int), xs, rfl, rfl, hT, hne, by omega, by omega, hz, fun p hp => qn (by omega) p hp⟩
  · cases rx
    obtain ⟨t, rfl⟩ := ry
    obtain ⟨its, r, ⟨⟨cls, dd, data, sl⟩, ho, hc, n, hd⟩, hs⟩ := I.tuple hT
    simp only at hc hd
    subst hc hd
    have which : k = 0 ∨ k = 1 := by omega
    rcases which with rfl | rfl
    · have some_ : its.toArray.isEmpty = false := by
        cases its with
        | nil =>
          have e := r.length
          cases xs with
          | nil => exact absurd rfl hne
          | cons _ _ => cases e
        | cons _ _ => rfl
      refine wpAny_binaryOp_repeat_ref (T := "tuple") (U := "int") (by decide) ⟨_, ho, rfl⟩ (fun s' => typeIs_int s' 0 t) noFill_tuple_mul F.fills_int_mul F.slot_int_rmul repeat_tuple F.slot_int_index.lookup ?_
      refine call_meets F.slot_int_rmul (typeIs_int s 0 t) F.entry_int_rmul (F.args_int_rmul_2 _ _) (int_rmul_tuple 0 t l its.toArray n dd sl) ⟨ho, rfl, ⟨_, ho, rfl⟩, ?_⟩
      refine call_meets F.slot_tuple_mul ⟨_, ho, rfl⟩ F.entry_tuple_mul (F.args_tuple_mul_2 _ _) (tup_never l its.toArray n dd sl t some_) ⟨ho, ?_⟩
      have fresh := I.hok.fresh (Nat.le_refl s.heap.objs.size)
      refine ⟨.ref s.heap.objs.size, _, I.laid (t' := s.toks) (o := .tup []) (fun b ob q => Heap.get?_push_of_some _ q) (Nat.le_refl _) ?_, rfl, qn (by decide) _ fresh⟩
      exact ⟨Nat.zero_le _, [], .nil, IsTup.new _ _⟩
    · refine wpAny_binaryOp_repeat_ref (T := "tuple") (U := "int") (by decide) ⟨_, ho, rfl⟩ (fun s' => typeIs_int s' 1 t) noFill_tuple_mul F.fills_int_mul F.slot_int_rmul repeat_tuple F.slot_int_index.lookup ?_
      refine call_meets F.slot_int_rmul (typeIs_int s 1 t) F.entry_int_rmul (F.args_int_rmul_2 _ _) (int_rmul_tuple 1 t l its.toArray n dd sl) ⟨ho, rfl, ⟨_, ho, rfl⟩, ?_⟩
      refine call_meets F.slot_tuple_mul ⟨_, ho, rfl⟩ F.entry_tuple_mul (F.args_tuple_mul_2 _ _) (tup_once l its.toArray n dd sl t) ⟨ho, ?_⟩
      exact ⟨.ref l, H, I, rfl, q1 rfl⟩
end L2
namespace L2
open PySem PySem.Spec PyProof.Rows
/-! ## Own words, 5: one of two promises; the call of a value -/
section
variable {P : Program} {w : World} {K : PySem.W.Frag} {mg : Str → Option Value} {base : Heap} {CX : CXT} {k : Nat} {f : Addr} {fd : FuncData} {ps : List Str} {sp sp' : Sp}
theorem FnG.or (F : FnG P w K mg base CX k f fd ps sp) (F' : FnG P w K mg base CX k f fd ps sp') : FnG P w K mg base CX k f fd ps (fun vs H Q E => sp vs H Q E ∨ sp' vs H Q E) := by
  refine ⟨fun vs H Q E h => h.elim (F.size vs H Q E) (F'.size vs H Q E), fun A outer s H args us vs Q E room guard env bind rel h => ?_⟩
  rcases h with h | h
  · exact F.goes A outer s H args us vs Q E room guard env bind rel h
  · exact F'.goes A outer s H args us vs Q E room guard env bind rel h
theorem FnOk.or (F : FnOk P w K mg base CX k f fd ps sp) (F' : FnOk P w K mg base CX k f fd ps sp') : FnOk P w K mg base CX k f fd ps (fun vs H Q E => sp vs H Q E ∨ sp' vs H Q E) := by
  refine ⟨fun vs H Q E h => h.elim (F.len vs H Q E) (F'.len vs H Q E), fun A outer s H args us vs Q E room env bind rel h => ?_⟩
  rcases h with h | h
  · exact F.run A outer s H args us vs Q E room env bind rel h
  · exact F'.run A outer s H args us vs Q E room env bind rel h
end
section
variable {X : Cx} {k : Nat} {sp : Sp} {pos : Pos} {fe e : Expr} {es : List Expr} {tf : TE} {t : TA}
def tCallOf (fs : List Addr) (sp : Sp) (tf : TE) (t : TA) : TE := fun σ H Q => tf σ H fun y H1 => ∃ f, f ∈ fs ∧ y = .ref f ∧ t σ H1 fun vs H2 => sp vs H2 Q E0
theorem pe_callOf {fs : List Addr} (hf : PE X fe tf) (F : ∀ f, f ∈ fs → ∃ fd ps, FnOk X.prog X.w X.K X.mg X.base CX0 k f fd ps sp ∧ PySem.W.keepIn X.K (.ref f) = true ∧ Binds X.K fd ps []) (room : Room k X.A) (ha : PA X (e :: es) t)
    (ht : eval (.Call fe (e :: es) [] pos) X.env = (do callWith pos (← eval fe X.env) [] (backTo pos (starEach (e :: es) X.env)) (backToKw pos (keywordEach [] X.env))) := by rfl)
    (he : starEach (e :: es) X.env = (false, eval e X.env) :: starEach es X.env := by rfl) (hpl : (backTo pos (starEach es X.env)).any (·.1) = false := by rfl) : PE X (.Call fe (e :: es) [] pos) (tCallOf fs sp tf t) := by
  refine ⟨fun pins s σ H Q I h => ?_⟩
  refine Call_ (thn (hf.run pins s σ H _ I h) fun u s1 ⟨y, H1, I1, ry, f, hm, ey, q⟩ => ?_) ht
  subst ey
  obtain rfl : u = Value.ref f := ry
  obtain ⟨fd, ps, G, kp, hb⟩ := F f hm
  refine PySem.W.callWith_K (h₀ := X.base) I.ok.mod.kin kp (thn (ha.run pos pins s1 σ H1 _ I1 q) fun us s2 ⟨vs, H2, I2, r, q2⟩ => ⟨I2.kIn, ?_⟩) he hpl
  exact run_fn (dvs := []) (E := E0) G room hb .nil pass0 I2 r (by rw [List.append_nil]; exact q2)
end
end L2
namespace Sw
open PySem PySem.Spec PyProof.Rows L2
/-! ### 1. the text by places -/
def top (i : Nat) : Stmt := PySem.Challenge.pw_sampleweave_k15_counts_and_tapes.main.body.getD i (.Pass ⟨0, 0, 0, 0⟩)
abbrev FnP (K : PySem.W.Frag) (x : Str) (st : Stmt) (f : Addr) (fd : FuncData) : Prop := FunD K x x (defArgs st) (defBody st) (defScope st) [] [] f fd
abbrev sWhole : Stmt := top 5
abbrev sWithin : Stmt := top 6
abbrev sTruth : Stmt := top 7
abbrev sWholes : Stmt := top 8
abbrev sListOf : Stmt := top 9
abbrev sNeed : Stmt := top 10
abbrev sFiring : Stmt := top 12
abbrev sNodeInit : Stmt := inClass (top 16) 0
abbrev sCell : Stmt := top 22
abbrev sPot : Stmt := top 23
abbrev sDraw : Stmt := top 24
abbrev sNumber : Stmt := top 25
/-! ### 2. pots -/
/-- all but what stands at p is as it was -/
def Kept (p : Addr) (H H' : Hp) : Prop := ∀ b o, b ≠ p → H b = some o → H' b = some o
theorem Kept.refl {p : Addr} {H : Hp} : Kept p H H := fun _ _ _ h => h
theorem Kept.trans {p : Addr} {H H1 H2 : Hp} (a : Kept p H H1) (b : Kept p H1 H2) : Kept p H H2 := fun c o n h => b c o n (a c o n h)
theorem Kept.upd {p : Addr} {H H1 : Hp} {o : HO} (a : Kept p H H1) : Kept p H (upd H1 p o) := fun c o n h => by
  rw [upd_ne n]
  exact a c o n h
theorem Kept.new {p q : Addr} {H H1 : Hp} {o : HO} (a : Kept p H H1) (h : H1 q = none) : Kept p H (L2.upd H1 q o) := fun c o n e => by
  have e1 := a c o n e
  rw [upd_ne (ne_of_none e1 h)]
  exact e1
theorem Kept.same {p : Addr} {H H1 : Hp} (a : Same H H1) : Kept p H H1 := fun c o _ e => a c o e
/-- behind a heap in which nothing stood at p -/
theorem Same.kept {p : Addr} {H0 H H1 : Hp} (s : Same H0 H) (h : H0 p = none) (k : Kept p H H1) : Same H0 H1 := fun b o e =>
  k b o (fun z => by rw [z, h] at e; cases e) (s b o e)
theorem Same.new {H H1 : Hp} {q : Addr} {o : HO} (a : Same H H1) (h : H1 q = none) : Same H (upd H1 q o) := fun c u e => by
  have e1 := a c u e
  rw [upd_ne (ne_of_none e1 h)]
  exact e1
/-- a pot: two numbers from 0 on, the second one small -/
def PotAt (H : Hp) (p : Addr) : Prop := ∃ a b : Int, 0 ≤ a ∧ 0 ≤ b ∧ b < 2147483647 ∧ H p = some (.lst [.int a, .int b])
theorem PotAt.keep {H H1 : Hp} {p : Addr} (h : PotAt H p) (s : Same H H1) : PotAt H1 p := by
  obtain ⟨a, b, h1, h2, h3, h4⟩ := h
  exact ⟨a, b, h1, h2, h3, s _ _ h4⟩
/-! ### 3. promises -/
def spCell (K : PySem.W.Frag) : Sp := fun vs H Q _ => ∃ (a : Addr) (ns : List Int) (k : Nat), vs = [.ref a, .int (k : Int)] ∧ SqL K H a (ns.map V.int) ∧ ∀ c : Int, Q (.int c) H
def spPot : Sp := fun vs H Q _ => ∃ c : Int, vs = [.int c] ∧ ∀ (p : Addr) (H' : Hp), H p = none → Same H H' → PotAt H' p → Q (.ref p) H'
def spDraw : Sp := fun vs H Q _ => ∃ (p : Addr) (m : Int), vs = [.ref p, .int m] ∧ PotAt H p ∧ 0 < m ∧ m < 2 ^ 64 ∧ ∀ (d : Int) (H' : Hp), 0 ≤ d → d < m → Kept p H H' → PotAt H' p → Q (.int d) H'
def spNumber : Sp := fun vs H Q _ => ∃ p : Addr, vs = [.ref p] ∧ PotAt H p ∧ ∀ (d : Int) (H' : Hp), -(10 ^ 56) < d → d < 10 ^ 56 → Kept p H H' → PotAt H' p → Q (.int d) H'
section
variable {P : Program} {w : World} {K : PySem.W.Frag} {mg : Str → Option Value} {base : Heap} {f f1 f2 f3 f4 f5 f6 C CW CN : Addr} {fd fd1 fd2 fd3 fd4 fd5 fd6 : FuncData}
theorem scCell : FnScope ["_law_script", "_law_k"] ["_law_script", "_law_k"] (defScope sCell) := ⟨rfl, rfl, rfl, by decide +kernel, rfl, by decide +kernel, by decide +kernel⟩
theorem ok_cell (F : FnP K "_law_cell" sCell f fd) (gLen : mg "len" = none) : FnOk P w K mg base CX0 1 f fd ["_law_script", "_law_k"] (spCell K) := by
  refine F.ok scCell (fun vs H Q E h => ?_) (fun cdv A outer s H vs Q E hr h => ?_)
  · obtain ⟨a, ns, k, rfl, _⟩ := h
    rfl
  · obtain ⟨a, ns, k, rfl, hS, kk⟩ := h
    refine ⟨_, PSs.nox (pss_one (ps_ret (pe_ifExp (pt_cmpR op_lt (pv 1) (pe_callB call_len_seq (by rfl) gLen PySem.boot_len (pa_cons (pv 0) pa_nil)) (nomark _)) (pe_ix ix_list (pv 0) (pv 1) (fun _ _ => rfl)) pe_int))), ?_⟩
    refine ⟨_, rfl, _, rfl, a, _, rfl, .inl hS, _, _, rfl, rfl, _, rfl, ?_⟩
    refine ite2 (fun h => ?_) (fun _ => kk 0)
    have h1 := of_decide_eq_true h
    rw [List.length_map] at h1
    have h2 : k < ns.length := by omega
    refine ⟨_, rfl, _, rfl, a, _, _, V.int (ns[k]), rfl, rfl, hS, atI_nat ?_, kk _⟩
    rw [List.getElem?_map, List.getElem?_eq_getElem h2]
    rfl
theorem scPot : FnScope ["_law_cell_here"] ["_law_cell_here"] (defScope sPot) := ⟨rfl, rfl, rfl, by decide +kernel, rfl, by decide +kernel, by decide +kernel⟩
theorem ok_pot (F : FnP K "_law_pot" sPot f fd) (gMax : mg "max" = none) : FnOk P w K mg base CX0 1 f fd ["_law_cell_here"] spPot := by
  refine F.ok scPot (fun vs H Q E h => ?_) (fun cdv A outer s H vs Q E hr h => ?_)
  · obtain ⟨c, rfl, _⟩ := h
    rfl
  · obtain ⟨c, rfl, kk⟩ := h
    refine ⟨_, PSs.nox (pss_one (ps_ret (pe_lst (pa_cons (pe_callB (call_max2 rfl) (by rfl) gMax (by decide +kernel) (pa_cons pe_int (pa_cons (pe_op op_sub (pv 0) (pe_op op_pow pe_int pe_int)) pa_nil)))
      (pa_cons (pe_op op_mod (pe_op op_add (pe_op op_mul (pe_op op_mod (pv 0) pe_int) pe_int) pe_int) pe_int) pa_nil))))), ?_⟩
    refine ⟨_, rfl, _, _, rfl, rfl, ⟨by decide, by decide, by decide⟩, _, _, rfl, rfl, _, _, rfl, ?_⟩
    have q0 := Int.emod_nonneg c (show (2147483629 : Int) ≠ 0 by decide)
    have q1 := Int.emod_lt_of_pos c (show (0 : Int) < 2147483629 by decide)
    refine ⟨_, rfl, _, _, rfl, rfl, (by show (0 : Int) < _; decide), _, _, rfl, rfl, .inr ⟨by decide, by decide⟩, _, _, rfl, rfl, _, _, rfl, rfl, (by show (0 : Int) < _; decide), ?_⟩
    refine ⟨(by show 2 ≤ sizeLine; decide), fun p hp => kk p _ hp (Same.new (Same.refl _) hp) ⟨_, _, ?_, ?_, ?_, upd_same⟩⟩
    · split
      · omega
      · decide
    · exact Int.emod_nonneg _ (by decide)
    · exact Int.emod_lt_of_pos _ (by decide)
theorem scDraw : FnScope ["_law_pot_here", "_law_many", "_law_digit"] ["_law_pot_here", "_law_many"] (defScope sDraw) := ⟨rfl, rfl, rfl, by decide +kernel, rfl, by decide +kernel, by decide +kernel⟩
theorem div_wide {i m : Int} (h0 : 0 < m) (h1 : m < 2 ^ 64) : CDivW i m := wide_div (b := 64) h0 (by omega) (by decide) (by decide)
theorem ok_draw (F : FnP K "_law_draw" sDraw f fd) : FnOk P w K mg base CX0 1 f fd ["_law_pot_here", "_law_many"] spDraw := by
  refine F.ok scDraw (fun vs H Q E h => ?_) (fun cdv A outer s H vs Q E hr h => ?_)
  · obtain ⟨p, m, rfl, _⟩ := h
    rfl
  · obtain ⟨p, m, rfl, ⟨a, b, a0, b0, b1, hp⟩, m0, m1, kk⟩ := h
    refine ⟨_, PSs.nox (pss_cons (ps_if (pt_cmpR op_gt (pe_ix ix_list (pv 0) pe_int (fun _ _ => rfl)) pe_int (nomark _))
        (pss_cons (ps_set (i := 2) scDraw.nd rfl (Or.inl rfl) (pe_op op_mod (pe_ix ix_list (pv 0) pe_int (fun _ _ => rfl)) (pv 1)))
          (pss_cons (ps_asg (pe_op op_fdivW (pe_ix ix_list (pv 0) pe_int (fun _ _ => rfl)) (pv 1)) (pg_sub (pv 0) pe_int set_list (by intro _; rfl)))
            (pss_one (ps_ret (pv 2))))) pss_nil)
      (pss_cons (ps_asg (pe_op op_mod (pe_op op_add (pe_op op_mul (pe_ix ix_list (pv 0) pe_int (fun _ _ => rfl)) pe_int) pe_int) pe_int) (pg_sub (pv 0) pe_int set_list (by intro _; rfl)))
        (pss_one (ps_ret (pe_op op_mod (pe_op op_fdiv (pe_op op_mod (pe_op op_mul (pe_ix ix_list (pv 0) pe_int (fun _ _ => rfl)) (pe_ix ix_list (pv 0) pe_int (fun _ _ => rfl))) pe_int) pe_int) (pv 1)))))), ?_⟩
    refine ⟨_, rfl, p, _, _, _, rfl, rfl, SqL.of hp, atI_nat (j := 0) rfl, _, _, rfl, rfl, _, rfl, ?_⟩
    refine ite2 (fun h => ?_) (fun _ => ?_)
    · refine ⟨_, rfl, p, _, _, _, rfl, rfl, SqL.of hp, atI_nat (j := 0) rfl, _, rfl, _, _, rfl, rfl, m0, ?_⟩
      refine ⟨_, rfl, p, _, _, _, rfl, rfl, SqL.of hp, atI_nat (j := 0) rfl, _, rfl, _, _, rfl, rfl, div_wide m0 m1, ?_⟩
      refine ⟨_, rfl, p, _, _, 0, rfl, rfl, hp, rfl, ?_⟩
      refine ⟨_, rfl, kk _ _ (Int.emod_nonneg _ (by omega)) (Int.emod_lt_of_pos _ m0) (Kept.upd Kept.refl) ⟨_, _, Int.ediv_nonneg a0 (by omega), b0, b1, upd_same⟩⟩
    · refine ⟨_, rfl, p, _, _, _, rfl, rfl, SqL.of hp, atI_nat (j := 1) rfl, _, _, rfl, rfl, .inr ⟨by decide, by decide⟩, _, _, rfl, rfl, _, _, rfl, rfl, (by show (0 : Int) < _; decide), ?_⟩
      refine ⟨_, rfl, p, _, _, 1, rfl, rfl, hp, rfl, ?_⟩
      have c0 := Int.emod_nonneg (b * 39373 + 8191) (show (2147483587 : Int) ≠ 0 by decide)
      have c1 := Int.emod_lt_of_pos (b * 39373 + 8191) (show (0 : Int) < 2147483587 by decide)
      have hq : (upd H p (.lst ([V.int a, V.int b].set 1 (V.int ((b * 39373 + 8191) % 2147483587))))) p = some (.lst [V.int a, V.int ((b * 39373 + 8191) % 2147483587)]) := upd_same
      refine ⟨_, rfl, p, _, _, _, rfl, rfl, SqL.of hq, atI_nat (j := 1) rfl, _, rfl, p, _, _, _, rfl, rfl, SqL.of hq, atI_nat (j := 1) rfl, _, _, rfl, rfl, .inl ⟨by omega, by omega⟩, ?_⟩
      refine ⟨_, _, rfl, rfl, (by show (0 : Int) < _; decide), _, _, rfl, rfl, ⟨by decide, by decide⟩, _, rfl, _, _, rfl, rfl, m0, ?_⟩
      exact kk _ _ (Int.emod_nonneg _ (by omega)) (Int.emod_lt_of_pos _ m0) (Kept.upd Kept.refl) ⟨_, _, a0, c0, by omega, hq⟩
theorem scNumber : FnScope ["_law_pot_here", "_law_way", "_law_found", "_law_k"] ["_law_pot_here"] (defScope sNumber) := ⟨rfl, rfl, rfl, by decide +kernel, rfl, by decide +kernel, by decide +kernel⟩
def tabM : List V := [.int 21, .int 21, .int 21, .int 3, .int 201, .int 2001, .int (10 ^ 9)]
def tabO : List V := [.int 10, .int 10, .int 5, .int 1, .int 100, .int 1000, .int 500000000]
theorem tab_at {d : Int} (h0 : 0 < d) (h8 : d < 8) : ∃ m o : Int, atI tabM (d - 1) = some (.int m) ∧ atI tabO (d - 1) = some (.int o) ∧ 0 < m ∧ m ≤ 10 ^ 9 ∧ 0 ≤ o ∧ o ≤ 10 ^ 9 := by
  have : d = 1 ∨ d = 2 ∨ d = 3 ∨ d = 4 ∨ d = 5 ∨ d = 6 ∨ d = 7 := by omega
  rcases this with rfl | rfl | rfl | rfl | rfl | rfl | rfl
  all_goals exact ⟨_, _, rfl, rfl, by decide, by decide, by decide, by decide⟩
theorem ten_step {x d : Int} {i : Nat} (h0 : 0 ≤ x) (h1 : x < 10 ^ (14 * i)) (d0 : 0 ≤ d) (d1 : d < 10 ^ 14) : x * 10 ^ 14 + d < 10 ^ (14 * (i + 1)) := by
  rw [show 14 * (i + 1) = 14 * i + 14 by omega, Int.pow_add]
  generalize hy : (10 : Int) ^ (14 * i) = y at *
  omega
theorem ok_number (F : FnP K "_law_number" sNumber f fd) (FD : FnP K "_law_draw" sDraw f1 fd1) (gDraw : mg "_law_draw" = some (.ref f1)) (gRange : mg "range" = none) : FnOk P w K mg base CX0 2 f fd ["_law_pot_here"] spNumber := by
  have GD : FnOk P w K mg base CX0 1 f1 fd1 ["_law_pot_here", "_law_many"] spDraw := ok_draw FD
  have bD : Binds K fd1 ["_law_pot_here", "_law_many"] [] := FD.bindsN fun _ _ _ _ _ _ us hl => match us, hl with | [_, _], _ => rfl
  refine F.ok scNumber (fun vs H Q E h => ?_) (fun cdv A outer s H vs Q E hr h => ?_)
  · obtain ⟨p, rfl, _⟩ := h
    rfl
  · obtain ⟨p, rfl, hp, kk⟩ := h
    refine ⟨_, PSs.nox (pss_cons (ps_set (i := 1) scNumber.nd rfl (Or.inl rfl) (pe_call GD hr rfl gDraw FD.kp bD .nil pass0 (pa_cons (pv 0) (pa_cons pe_int pa_nil))))
      (pss_cons (ps_if (pt_cmpR op_eq (pv 1) pe_int (nomark _))
        (pss_cons (ps_set (i := 2) scNumber.nd rfl (Or.inl rfl) pe_int)
          (pss_cons (ps_for PassesOwn.never rfl (pi_range1 rfl gRange (pa_cons pe_int pa_nil)) (pg_name (i := 3) scNumber.nd rfl (Or.inl rfl))
              (pss_one (ps_set (i := 2) scNumber.nd rfl (Or.inl rfl) (pe_op op_add (pe_op op_mul (pv 2) (pe_op op_pow pe_int pe_int)) (pe_call GD hr rfl gDraw FD.kp bD .nil pass0 (pa_cons (pv 0) (pa_cons (pe_op op_pow pe_int pe_int) pa_nil)))))))
            (pss_one (ps_ret (pe_op op_mul (pv 2) (pe_op op_sub pe_int (pe_op op_mul pe_int (pe_call GD hr rfl gDraw FD.kp bD .nil pass0 (pa_cons (pv 0) (pa_cons pe_int pa_nil))))))))))
        pss_nil)
      (pss_one (ps_ret (pe_op op_sub (pe_call GD hr rfl gDraw FD.kp bD .nil pass0 (pa_cons (pv 0) (pa_cons (pe_ix ix_list
          (pe_lst (pa_cons pe_int (pa_cons pe_int (pa_cons pe_int (pa_cons pe_int (pa_cons pe_int (pa_cons pe_int (pa_cons (pe_op op_pow pe_int pe_int) pa_nil)))))))) (pe_op op_sub (pv 1) pe_int) (fun _ _ => rfl)) pa_nil)))
        (pe_ix ix_list (pe_lst (pa_cons pe_int (pa_cons pe_int (pa_cons pe_int (pa_cons pe_int (pa_cons pe_int (pa_cons pe_int (pa_cons pe_int pa_nil)))))))) (pe_op op_sub (pv 1) pe_int) (fun _ _ => rfl))))))), ?_⟩
    refine ⟨_, rfl, p, 8, rfl, hp, by decide, by decide, fun d H1 d0 d8 k1 hp1 => ?_⟩
    refine ⟨_, rfl, rfl, _, rfl, ?_⟩
    refine ite2 (fun h => ?_) (fun h => ?_)
    · refine ⟨4, rfl, by decide, by decide, for_range (n := 4) (fun i σ H' => ∃ (x : Int) (v : Option V), σ = [some (.ref p), some (.int d), some (.int x), v] ∧ 0 ≤ x ∧ x < 10 ^ (14 * i) ∧ Kept p H H' ∧ PotAt H' p)
        ⟨0, none, rfl, by decide, by decide, k1, hp1⟩ ?_ ?_⟩
      · rintro i σ H' hi ⟨x, v, rfl, x0, x1, k2, hp2⟩
        refine ⟨_, rfl, _, _, rfl, rfl, ⟨by decide, by decide, by decide⟩, _, _, rfl, rfl, .inr ⟨by decide, by decide⟩, ?_⟩
        refine ⟨_, rfl, _, _, rfl, rfl, ⟨by decide, by decide, by decide⟩, p, _, rfl, hp2, by decide, by decide, fun e H3 e0 e1 k3 hp3 => ?_⟩
        exact ⟨_, _, rfl, rfl, x * 10 ^ 14 + e, _, rfl, by omega, ten_step x0 x1 e0 e1, k2.trans k3, hp3⟩
      · rintro σ H' ⟨x, v, rfl, x0, x1, k2, hp2⟩
        refine ⟨_, rfl, _, rfl, p, 2, rfl, hp2, by decide, by decide, fun e H3 e0 e1 k3 hp3 => ?_⟩
        refine ⟨_, _, rfl, rfl, .inl ⟨by decide, by decide⟩, _, _, rfl, rfl, _, _, rfl, rfl, .inr ⟨by omega, by omega⟩, ?_⟩
        have : e = 0 ∨ e = 1 := by omega
        have x2 : x < 10 ^ 56 := x1
        refine kk _ _ ?_ ?_ (k2.trans k3) hp3
        · rcases this with rfl | rfl <;> omega
        · rcases this with rfl | rfl <;> omega
    · have dn : d ≠ 0 := fun z => h (decide_eq_true (by rw [z]))
      obtain ⟨m, o, e1, e2, m0, m1, o0, o1⟩ := tab_at (d := d) (by omega) d8
      refine ⟨_, rfl, _, _, rfl, rfl, ⟨by decide, by decide, by decide⟩, (by show 7 ≤ sizeLine; decide), fun l hl => ?_⟩
      refine ⟨_, rfl, _, _, rfl, rfl, l, _, _, _, rfl, rfl, SqL.of upd_same, e1, ?_⟩
      have hp2 : PotAt (upd H1 l (.lst tabM)) p := hp1.keep (Same.new (Same.refl _) hl)
      refine ⟨p, m, rfl, hp2, m0, by omega, fun e H3 e0 e1' k3 hp3 => ?_⟩
      refine ⟨(by show 7 ≤ sizeLine; decide), fun l2 hl2 => ?_⟩
      refine ⟨_, rfl, _, _, rfl, rfl, l2, _, _, _, rfl, rfl, SqL.of upd_same, e2, _, _, rfl, rfl, ?_⟩
      exact kk _ _ (by omega) (by omega) (((k1.new hl).trans k3).new hl2) (hp3.keep (Same.new (Same.refl _) hl2))
end
/-! ### is_whole, is_whole_within -/
def NoInt (K : PySem.W.Frag) (H : Hp) (v : V) : Prop := (∃ b, v = .bl b) ∨ ∃ T : String, TyX K H v (.type T) ∧ kitB T "int" = some false
def OddV (K : PySem.W.Frag) (H : Hp) (v : V) : Prop := (∃ i : Int, v = .int i ∧ (i < 0 ∨ 400 < i)) ∨ NoInt K H v
def spWhole (K : PySem.W.Frag) : Sp := fun vs H Q _ => ∃ v : V, vs = [v] ∧ ((∃ i : Int, v = .int i ∧ Q (.bl true) H) ∨ (NoInt K H v ∧ Q (.bl false) H))
def spWithin (K : PySem.W.Frag) : Sp := fun vs H Q _ => ∃ (v : V) (lo hi : Int), vs = [v, .int lo, .int hi] ∧ ((∃ i : Int, v = .int i ∧ Q (.bl (decide (lo ≤ i ∧ i ≤ hi))) H) ∨ (NoInt K H v ∧ Q (.bl false) H))
section
variable {P : Program} {w : World} {K : PySem.W.Frag} {mg : Str → Option Value} {base : Heap} {f f1 f2 f3 f4 f5 f6 C CW CN : Addr} {fd fd1 fd2 fd3 fd4 fd5 fd6 : FuncData}
theorem scWhole : FnScope ["thing"] ["thing"] (defScope sWhole) := ⟨rfl, rfl, rfl, by decide +kernel, rfl, by decide +kernel, by decide +kernel⟩
theorem ok_whole (F : FnP K "is_whole" sWhole f fd) (gIs : mg "isinstance" = none) (gInt : mg "int" = none) (gBool : mg "bool" = none) : FnOk P w K mg base CX0 1 f fd ["thing"] (spWhole K) := by
  refine F.ok scWhole (fun vs H Q E h => ?_) (fun cdv A outer s H vs Q E hr h => ?_)
  · obtain ⟨v, rfl, _⟩ := h
    rfl
  · obtain ⟨v, rfl, h⟩ := h
    refine ⟨_, PSs.nox (pss_one (ps_ret (pe_and (pe_callB call_isi (by rfl) gIs boot_isinstance (pa_cons (pv 0) (pa_cons (pe_bltn (v := .ty "int") rfl gInt PyProof.Rows.boot_int rfl) pa_nil)))
      (pe_one (pe_not (pe_callB call_isi (by rfl) gIs boot_isinstance (pa_cons (pv 0) (pa_cons (pe_bltn (v := .ty "bool") rfl gBool PyProof.Rows.boot_bool rfl) pa_nil)))))))), ?_⟩
    rcases h with ⟨i, rfl, k⟩ | ⟨⟨b, rfl⟩ | ⟨T, ty, ki⟩, k⟩
    · refine ⟨_, rfl, _, _, _, _, true, rfl, ClsV.ty _, TyX.base (TyOf.int i), kit_ty (by decide +kernel), _, rfl, iteT ?_⟩
      exact ⟨_, rfl, _, _, _, _, false, rfl, ClsV.ty _, TyX.base (TyOf.int i), kit_ty (by decide +kernel), _, rfl, k⟩
    · refine ⟨_, rfl, _, _, _, _, true, rfl, ClsV.ty _, TyX.base (TyOf.bl b), kit_ty (by decide +kernel), _, rfl, iteT ?_⟩
      exact ⟨_, rfl, _, _, _, _, true, rfl, ClsV.ty _, TyX.base (TyOf.bl b), kit_ty (by decide +kernel), _, rfl, k⟩
    · exact ⟨_, rfl, _, _, _, _, false, rfl, ClsV.ty _, ty, kit_ty ki, _, rfl, iteF k⟩
theorem scWithin : FnScope ["thing", "least", "most"] ["thing", "least", "most"] (defScope sWithin) := ⟨rfl, rfl, rfl, by decide +kernel, rfl, by decide +kernel, by decide +kernel⟩
theorem ok_within (F : FnP K "is_whole_within" sWithin f fd) (GI : FnOk P w K mg base CX0 1 f1 fd1 ["thing"] (spWhole K)) (gI : mg "is_whole" = some (.ref f1)) (kI : PySem.W.keepIn K (.ref f1) = true) (bI : Binds K fd1 ["thing"] []) : FnOk P w K mg base CX0 2 f fd ["thing", "least", "most"] (spWithin K) := by
  refine F.ok scWithin (fun vs H Q E h => ?_) (fun cdv A outer s H vs Q E hr h => ?_)
  · obtain ⟨v, lo, hi, rfl, _⟩ := h
    rfl
  · obtain ⟨v, lo, hi, rfl, h⟩ := h
    refine ⟨_, PSs.nox (pss_one (ps_ret (pe_and (pe_call GI hr rfl gI kI bI .nil pass0 (pa_cons (pv 0) pa_nil)) (pe_one (pe_chain op_le op_le (pv 1) (pv 0) (pv 2)))))), ?_⟩
    rcases h with ⟨i, rfl, k⟩ | ⟨no, k⟩
    · refine ⟨_, rfl, _, rfl, .inl ⟨i, rfl, _, rfl, iteT ?_⟩⟩
      refine ⟨_, rfl, _, rfl, _, _, rfl, rfl, _, rfl, ?_⟩
      refine ite2 (fun h => ?_) (fun h => ?_)
      · refine ⟨_, rfl, _, _, rfl, rfl, ?_⟩
        have e : decide (lo ≤ i ∧ i ≤ hi) = decide (i ≤ hi) := decide_eq_decide.mpr ⟨fun z => z.2, fun z => ⟨of_decide_eq_true h, z⟩⟩
        rw [e] at k
        exact k
      · have e : decide (lo ≤ i ∧ i ≤ hi) = false := decide_eq_false fun z => h (decide_eq_true z.1)
        rw [e] at k
        exact k
    · exact ⟨_, rfl, _, rfl, .inr ⟨no, _, rfl, iteF k⟩⟩
end
/-! ### lists of ints as data -/
theorem dp_ints {K : PySem.W.Frag} {H : Hp} : ∀ ns : List Int, DpAll K H (ns.map V.int) (ns.map PyData.int)
  | [] => .nil
  | n :: ns => .cons (.int n) (dp_ints ns)
theorem lay_ints : ∀ ns : List Int, PyData.canLayAll0 (ns.map PyData.int) = true
  | [] => rfl
  | n :: ns => by
    rw [List.map_cons, PyData.canLayAll0, lay_ints ns]
    rfl
theorem depth_ints : ∀ ns : List Int, PyData.depthAll (ns.map PyData.int) = 0
  | [] => by rw [List.map_nil, PyData.depthAll]
  | n :: ns => by
    rw [List.map_cons, PyData.depthAll, depth_ints ns, PyData.depth]
    rfl
theorem shaped_ints (ns : List Int) : SeqAt.shaped (.list (ns.map PyData.int)) = true := by
  unfold SeqAt.shaped
  rw [PyData.canLay0, lay_ints, PyData.depth, depth_ints]
  rfl
theorem eqv_ints (ns : List Int) : PyData.eqv (.list (ns.map PyData.int)) (.list (ns.map PyData.int)) = true := by
  refine SeqAt.eqv_refl _ ?_
  rw [PyData.canLay0]
  exact lay_ints ns
theorem dp_at {K : PySem.W.Frag} {H : Hp} {a : Addr} {ns : List Int} (h : H a = some (.lst (ns.map V.int))) : Dp K H (.ref a) (.list (ns.map PyData.int)) := .lst (SqL.of h) (dp_ints ns)
/-! ### need, Node.__init__, run_firing -/
abbrev FnM (K : PySem.W.Frag) (x q : Str) (st : Stmt) (f : Addr) (fd : FuncData) : Prop := FunD K x q (defArgs st) (defBody st) (defScope st) [] [] f fd
theorem Same.tup {K : PySem.W.Frag} {H H1 : Hp} {a : Addr} {xs : List V} (s : Same H H1) (h : SqT K H a xs) : SqT K H1 a xs := by
  rcases h with (h | ⟨o, h⟩) | h
  · exact .inl (.inl (s _ _ h))
  · exact .inl (.inr ⟨o, s _ _ h⟩)
  · exact .inr h
theorem Kept.at {p b : Addr} {H H1 : Hp} {o u : HO} (k : Kept p H H1) (hp : H p = some u) (hb : H b = some o) (n : o ≠ u) : H1 b = some o := k b o (fun z => n (by rw [z, hp] at hb; exact (Option.some.inj hb).symm)) hb
theorem Kept.tup {K : PySem.W.Frag} {p a : Addr} {H H1 : Hp} {xs : List V} (k : Kept p H H1) (hp : PotAt H p) (h : SqT K H a xs) : SqT K H1 a xs := by
  obtain ⟨x, y, _, _, _, hp⟩ := hp
  rcases h with (h | ⟨o, h⟩) | h
  · exact .inl (.inl (k.at hp h (fun z => by cases z)))
  · exact .inl (.inr ⟨o, k.at hp h (fun z => by cases z)⟩)
  · exact .inr h
/-- an instance of the class at C, with these fields -/
def InsAt (H : Hp) (p C : Addr) (fs : List (Str × V)) : Prop := ∃ dx, H p = some (.ins C dx fs)
theorem InsAt.keep {H H1 : Hp} {p C : Addr} {fs : List (Str × V)} (h : InsAt H p C fs) (s : Same H H1) : InsAt H1 p C fs := by
  obtain ⟨dx, h⟩ := h
  exact ⟨dx, s _ _ h⟩
theorem InsAt.kept {H H1 : Hp} {p q C : Addr} {fs : List (Str × V)} (h : InsAt H p C fs) (k : Kept q H H1) (hq : PotAt H q) : InsAt H1 p C fs := by
  obtain ⟨dx, h⟩ := h
  obtain ⟨x, y, _, _, _, hq⟩ := hq
  exact ⟨dx, k.at hq h (fun z => by cases z)⟩
def spNeed : Sp := fun vs H Q _ => ∃ v : V, vs = [.bl true, v] ∧ Q .non H
/-- what all sorts keep -/
def nodeF (tm : Addr) (l b : Int) (fs : List (Str × V)) : List (Str × V) := putF "begin_at" (.int b) (putF "late_by" (.int l) (putF "made" (.ref tm) fs))
def spNodeInit (K : PySem.W.Frag) (C : Addr) : Sp := fun vs H Q _ => ∃ (p t dx : Addr) (fs : List (Str × V)) (xs : List V) (l b : Int), vs = [.ref p, .ref t, .int l, .int b] ∧ H p = some (.ins C dx fs) ∧ SqT K H t xs ∧ (0 ≤ l ∧ l ≤ 99) ∧ (0 ≤ b ∧ b ≤ 9999) ∧
  fs.length < 900 ∧ xs.length ≤ 1000 ∧ ∀ tm, H tm = none → Q .non (upd (upd H tm (.tup (xs ++ [.int l, .int b]))) p (.ins C dx (nodeF tm l b fs)))
structure NodeC (K : PySem.W.Frag) (C : Addr) : Prop where
  cl : Cls K C
  nM : NoAttr K C "made"
  nL : NoAttr K C "late_by"
  nB : NoAttr K C "begin_at"
theorem putF_le (f : Str) (v : V) : ∀ fs : List (Str × V), (putF f v fs).length ≤ fs.length + 1
  | [] => Nat.le_refl _
  | (g, x) :: r => by
    unfold putF
    split
    · exact Nat.le_succ _
    · exact Nat.succ_le_succ (putF_le f v r)
section
variable {P : Program} {w : World} {K : PySem.W.Frag} {mg : Str → Option Value} {base : Heap} {f f1 f2 f3 f4 f5 f6 C CW CN : Addr} {fd fd1 fd2 fd3 fd4 fd5 fd6 : FuncData}
theorem scNeed : FnScope ["holds", "field"] ["holds", "field"] (defScope sNeed) := ⟨rfl, rfl, rfl, by decide +kernel, rfl, by decide +kernel, by decide +kernel⟩
theorem ok_need (F : FnP K "need" sNeed f fd) : FnOk P w K mg base CX0 1 f fd ["holds", "field"] spNeed := by
  refine F.ok scNeed (fun vs H Q E h => ?_) (fun cdv A outer s H vs Q E hr h => ?_)
  · obtain ⟨v, rfl, _⟩ := h
    rfl
  · obtain ⟨v, rfl, k⟩ := h
    refine ⟨_, PSs.nox (pss_one (ps_if (pt_not (pt_val (pv 0))) pss_never pss_nil)), ?_⟩
    exact ⟨_, rfl, _, rfl, iteF k⟩
theorem scNodeInit : FnScope ["self", "arguments", "late", "begin"] ["self", "arguments", "late", "begin"] (defScope sNodeInit) := ⟨rfl, rfl, rfl, by decide +kernel, rfl, by decide +kernel, by decide +kernel⟩
theorem ok_nodeInit (F : FnM K "__init__" "Node.__init__" sNodeInit f fd) (GN : FnOk P w K mg base CX0 1 f1 fd1 ["holds", "field"] spNeed) (gN : mg "need" = some (.ref f1)) (kN : PySem.W.keepIn K (.ref f1) = true) (bN : Binds K fd1 ["holds", "field"] [])
    (GW : FnOk P w K mg base CX0 2 f2 fd2 ["thing", "least", "most"] (spWithin K)) (gW : mg "is_whole_within" = some (.ref f2)) (kW : PySem.W.keepIn K (.ref f2) = true) (bW : Binds K fd2 ["thing", "least", "most"] [])
    (gML : ∃ t, mg "MOST_LATE" = some (.int 99 t)) (gMB : ∃ t, mg "MOST_BEGIN" = some (.int 9999 t)) (T : NodeC K C) : FnOk P w K mg base CX0 3 f fd ["self", "arguments", "late", "begin"] (spNodeInit K C) := by
  obtain ⟨tL, gL⟩ := gML
  obtain ⟨tB, gB⟩ := gMB
  refine F.ok scNodeInit (fun vs H Q E h => ?_) (fun cdv A outer s H vs Q E hr h => ?_)
  · obtain ⟨p, t, dx, fs, xs, l, b, rfl, _⟩ := h
    rfl
  · obtain ⟨p, t, dx, fs, xs, l, b, rfl, hp, ht, hl, hb, hfs, hxs, k⟩ := h
    have hr1 : Room 1 _ := hr.mono (by decide)
    refine ⟨_, PSs.nox (pss_cons (ps_expr (pe_call GN hr1 rfl gN kN bN .nil pass0 (pa_cons (pe_call GW hr rfl gW kW bW .nil pass0 (pa_cons (pv 2) (pa_cons pe_int (pa_cons (pe_glob (v := .int 99) rfl gL ⟨_, rfl⟩) pa_nil)))) (pa_cons pe_str pa_nil))))
      (pss_cons (ps_expr (pe_call GN hr1 rfl gN kN bN .nil pass0 (pa_cons (pe_call GW hr rfl gW kW bW .nil pass0 (pa_cons (pv 3) (pa_cons pe_int (pa_cons (pe_glob (v := .int 9999) rfl gB ⟨_, rfl⟩) pa_nil)))) (pa_cons pe_str pa_nil))))
      (pss_cons (ps_fld (pv 0) (pe_tup (StX.pa_star (pv 1) (pa_cons (pv 2) (pa_cons (pv 3) pa_nil)))) rfl)
      (pss_cons (ps_fld (pv 0) (pv 2) rfl) (pss_one (ps_fld (pv 0) (pv 3) rfl)))))), ?_⟩
    refine ⟨_, rfl, _, 0, 99, rfl, .inl ⟨l, rfl, ?_⟩⟩
    rw [show decide ((0 : Int) ≤ l ∧ l ≤ 99) = true from decide_eq_true hl]
    refine ⟨_, rfl, ?_⟩
    refine ⟨_, rfl, _, 0, 9999, rfl, .inl ⟨b, rfl, ?_⟩⟩
    rw [show decide ((0 : Int) ≤ b ∧ b ≤ 9999) = true from decide_eq_true hb]
    refine ⟨_, rfl, ?_⟩
    refine ⟨_, rfl, t, xs, rfl, .inl ht, _, rfl, _, rfl, ?_, fun tm htm => ?_⟩
    · rw [List.length_append]
      exact Nat.le_trans (Nat.add_le_add_right hxs _) (by show 1000 + 2 ≤ sizeLine; decide)
    have npt : p ≠ tm := ne_of_none hp htm
    have l1 := putF_le "made" (.ref tm) fs
    have l2 := putF_le "late_by" (.int l) (putF "made" (.ref tm) fs)
    refine ⟨_, rfl, p, C, dx, _, rfl, (by rw [upd_ne npt]; exact hp), T.cl, T.nM, by omega, ?_⟩
    refine ⟨_, rfl, _, rfl, p, C, dx, _, rfl, upd_same, T.cl, T.nL, by omega, ?_⟩
    refine ⟨_, rfl, _, rfl, p, C, dx, _, rfl, upd_same, T.cl, T.nB, by omega, ?_⟩
    rw [upd_upd, upd_upd]
    exact k tm htm
end
/-! ### run_firing, for an instance of the class at C whose gives() is 1 and whose work keeps spW -/
def spGives1 (C : Addr) : Sp := fun vs H Q _ => ∃ (p dx : Addr) (fs : List (Str × V)), vs = [.ref p] ∧ H p = some (.ins C dx fs) ∧ Q (.int 1) H
/-- what a firing tells: a tuple of (mutes, behind) and the list of what is given, all of it new but what is behind -/
def Told (H : Hp) (Q : VK) (m : Int) (bh gv : V) : Hp → Prop := fun H1 => ∀ (q t : Addr) (H2 : Hp), Same H1 H2 → H q = none → H2 q = some (.tup [.ref t, gv]) → H2 t = some (.tup [.int m, bh]) → Q (.ref q) H2
def spFiring (K : PySem.W.Frag) (C : Addr) (spW : Sp) : Sp := fun vs H Q _ => ∃ (p tm : Addr) (fs : List (Str × V)) (m : Int) (kept rows : V), vs = [.ref p, .ref tm, rows] ∧ InsAt H p C fs ∧ fs.lookup ("gives" : Str) = none ∧ fs.lookup ("work" : Str) = none ∧ SqT K H tm [.int m, kept] ∧
  ((0 < m ∧ ∀ (l : Addr) (H1 : Hp), Same H H1 → H l = none → H1 l = some (.lst [.int 0]) → Told H Q (m - 1) kept (.ref l) H1) ∨
   (¬ 0 < m ∧ spW [.ref p, kept, rows] H (fun v H1 => ∃ (z : Addr) (bh gv : V), v = .ref z ∧ Same H H1 ∧ SqT K H1 z [bh, gv] ∧ Told H Q m bh gv H1) E0))
/-- what is promised of more is promised of less -/
def Wide1 (sp : Sp) : Prop := ∀ (vs : List V) (H : Hp) (Q Q' : VK) (E : XK), (∀ v H', Q v H' → Q' v H') → sp vs H Q E → sp vs H Q' E
section
variable {P : Program} {w : World} {K : PySem.W.Frag} {mg : Str → Option Value} {base : Heap} {f f1 f2 f3 f4 f5 f6 C CW CN : Addr} {fd fd1 fd2 fd3 fd4 fd5 fd6 : FuncData}
theorem scFiring : FnScope ["node", "memory", "rows", "mutes", "kept", "behind", "given"] ["node", "memory", "rows"] (defScope sFiring) := ⟨rfl, rfl, rfl, by decide +kernel, rfl, by decide +kernel, by decide +kernel⟩
theorem ok_firing {spW : Sp} {k : Nat} (F : FnP K "run_firing" sFiring f fd) (c : Cls K C) (GG : FnOk P w K mg base CX0 1 f1 fd1 ["self"] (spGives1 C)) (mG : Meth K C "gives" f1) (bG : Binds K fd1 ["self"] [])
    (GW : FnOk P w K mg base CX0 (k + 1) f2 fd2 ["self", "kept", "rows"] spW) (mW : Meth K C "work" f2) (bW : Binds K fd2 ["self", "kept", "rows"] []) (wd : Wide1 spW) : FnOk P w K mg base CX0 (k + 2) f fd ["node", "memory", "rows"] (spFiring K C spW) := by
  refine F.ok scFiring (fun vs H Q E h => ?_) (fun cdv A outer s H vs Q E hr h => ?_)
  · obtain ⟨p, tm, fs, m, kept, rows, rfl, _⟩ := h
    rfl
  · obtain ⟨p, tm, fs, m, kept, rows, rfl, hp, nG, nW, hm, h⟩ := h
    have hr1 : Room 1 _ := hr.mono (by omega)
    refine ⟨_, PSs.nox (pss_cons (ps_asg (pv 1) (pg_tup rfl (pgs_cons (pg_name (i := 3) scFiring.nd rfl (Or.inl rfl)) (pgs_cons (pg_name (i := 4) scFiring.nd rfl (Or.inl rfl)) pgs_nil))))
      (pss_cons (ps_if (pt_cmpR op_gt (pv 3) pe_int (nomark _))
        (pss_one (ps_ret (pe_tup (pa_cons (pe_tup (pa_cons (pe_op op_sub (pv 3) pe_int) (pa_cons (pv 4) pa_nil))) (pa_cons (pe_op op_rep (pe_lst (pa_cons pe_int pa_nil)) (pe_meth0 (pv 0) c mG GG hr1 bG .nil pass0)) pa_nil))))) pss_nil)
      (pss_cons (ps_asg (pe_meth (pv 0) c mW GW hr bW .nil pass0 (pa_cons (pv 4) (pa_cons (pv 2) pa_nil))) (pg_tup rfl (pgs_cons (pg_name (i := 5) scFiring.nd rfl (Or.inl rfl)) (pgs_cons (pg_name (i := 6) scFiring.nd rfl (Or.inl rfl)) pgs_nil))))
      (pss_one (ps_ret (pe_tup (pa_cons (pe_tup (pa_cons (pv 3) (pa_cons (pv 5) pa_nil))) (pa_cons (pv 6) pa_nil)))))))), ?_⟩
    refine ⟨_, rfl, tm, _, rfl, hm, rfl, _, _, rfl, _, _, rfl, rfl, ?_⟩
    refine ⟨_, rfl, _, _, rfl, rfl, _, rfl, ?_⟩
    rcases h with ⟨m0, h⟩ | ⟨m0, h⟩
    · refine ite2 (fun _ => ?_) (fun z => absurd (decide_eq_true m0) z)
      refine ⟨_, rfl, _, _, rfl, rfl, _, rfl, (by show 2 ≤ sizeLine; decide), fun t ht => ?_⟩
      refine ⟨(by show 1 ≤ sizeLine; decide), fun l0 hl0 => ?_⟩
      have s2 := Same.new (o := .lst [V.int 0]) (Same.new (o := .tup [V.int (m - 1), kept]) (Same.refl H) ht) hl0
      obtain ⟨dx, hp2⟩ := hp.keep s2
      refine ⟨_, rfl, p, dx, fs, rfl, hp2, nG, p, dx, fs, rfl, hp2, ?_⟩
      refine ⟨l0, 1, _, rfl, rfl, upd_same, by decide, by decide, by show 1 * 1 ≤ sizeLine; decide, fun l hl => ?_⟩
      refine ⟨(by show 2 ≤ sizeLine; decide), fun q hq => ?_⟩
      have s3 := Same.new (o := .lst [V.int 0]) s2 hl
      have ht1 : (upd H t (.tup [V.int (m - 1), kept])) t = some (.tup [V.int (m - 1), kept]) := upd_same
      have ht2 := Same.new (o := .lst [V.int 0]) (Same.new (o := .lst [V.int 0]) (Same.refl _) hl0) hl _ _ ht1
      refine h l _ s3 (s2.free hl) upd_same q t _ (Same.new (Same.refl _) hq) (s3.free hq) upd_same ?_
      exact Same.new (Same.refl _) hq _ _ ht2
    · refine ite2 (fun z => absurd (of_decide_eq_true z) m0) (fun _ => ?_)
      obtain ⟨dx, hp2⟩ := hp
      refine ⟨_, rfl, p, dx, fs, rfl, hp2, nW, _, rfl, _, rfl, ?_⟩
      refine wd _ _ _ _ _ (fun v H1 hv => ?_) h
      obtain ⟨z, bh, gv, rfl, s1, hz, told⟩ := hv
      refine ⟨z, _, rfl, hz, rfl, _, _, rfl, _, _, rfl, rfl, ?_⟩
      refine ⟨_, rfl, _, rfl, (by show 2 ≤ sizeLine; decide), fun t ht => ?_⟩
      refine ⟨_, rfl, (by show 2 ≤ sizeLine; decide), fun q hq => ?_⟩
      have s2 := Same.new (o := .tup [V.int m, bh]) (Same.refl H1) ht
      refine told q t _ (Same.new s2 hq) ((s1.trans s2).free hq) upd_same ?_
      exact Same.new (Same.refl _) hq _ _ upd_same
end
/-! ### are_wholes, is_list_of_wholes -/
def spWholes (K : PySem.W.Frag) : Sp := fun vs H Q _ => ∃ (l : Addr) (ns : List Int), vs = [.ref l] ∧ SqL K H l (ns.map V.int) ∧ ns.length ≤ 1000 ∧ ∀ H', Same H H' → Q (.bl true) H'
def spListOf (K : PySem.W.Frag) : Sp := fun vs H Q _ => ∃ (l : Addr) (ns : List Int) (lo hi : Int), vs = [.ref l, .int lo, .int hi] ∧ H l = some (.lst (ns.map V.int)) ∧ ns.length ≤ 1000 ∧ lo ≤ (ns.length : Int) ∧ (ns.length : Int) ≤ hi ∧ ∀ H', Same H H' → Q (.bl true) H'
theorem all_true (n : Nat) : (List.replicate n true).all id = true := by
  rw [List.all_eq_true]
  intro b hb
  exact (List.mem_replicate.mp hb).2
section
variable {P : Program} {w : World} {K : PySem.W.Frag} {mg : Str → Option Value} {base : Heap} {f f1 f2 f3 f4 f5 f6 C CW CN : Addr} {fd fd1 fd2 fd3 fd4 fd5 fd6 : FuncData}
theorem scWholes : FnScope ["things", "thing"] ["things"] (defScope sWholes) := ⟨rfl, rfl, rfl, by decide +kernel, rfl, by decide +kernel, by decide +kernel⟩
theorem ok_wholes (F : FnP K "are_wholes" sWholes f fd) (GI : FnOk P w K mg base CX0 1 f1 fd1 ["thing"] (spWhole K)) (gI : mg "is_whole" = some (.ref f1)) (kI : PySem.W.keepIn K (.ref f1) = true) (bI : Binds K fd1 ["thing"] []) (gAll : mg "all" = none) :
    FnOk P w K mg base CX0 2 f fd ["things"] (spWholes K) := by
  refine F.ok scWholes (fun vs H Q E h => ?_) (fun cdv A outer s H vs Q E hr h => ?_)
  · obtain ⟨l, ns, rfl, _⟩ := h
    rfl
  · obtain ⟨l, ns, rfl, hl, few, k⟩ := h
    refine ⟨_, PSs.nox (pss_one (ps_ret (pe_callB (cr_all rfl) (by rfl) gAll (by decide +kernel) (pa_cons (pe_lc (own := [("thing", 1)]) (g := gName 1) (tt := tYes) rfl scWholes.nd (pi_list (pv 0)) (blkOk_by (N := ["things", "thing"]) (sc := defScope sWholes) (by decide +kernel))
      (fun _ _ _ _ _ => pg_name (i := 1) scWholes.nd rfl (Or.inl rfl)) (fun _ _ _ _ _ => pts_nil) (fun _ _ _ _ _ => pe_call GI hr rfl gI kI bI .nil pass0 (pa_cons (pv 1) pa_nil))) pa_nil)))), ?_⟩
    refine ⟨_, rfl, l, rfl, ⟨_, hl⟩, fun D hD => lc_list (K := K) (a := l) (xs := ns.map V.int) (fun i H' => H' = upd H D (.lst ((List.replicate i true).map V.bl))) rfl (fun i H' _ e => by rw [e]; exact Same.seq (Same.new (Same.refl _) hD) hl) (fun i v H' hv e => ?_) (fun H' e => ?_)⟩
    · subst e
      obtain ⟨u, rfl⟩ : ∃ u, v = V.int u := by
        rw [List.getElem?_map] at hv
        obtain ⟨u, _, e2⟩ := Option.map_eq_some_iff.mp hv
        exact ⟨u, e2.symm⟩
      have hi : i < ns.length := by
        have q := (List.getElem?_eq_some_iff.mp hv).1
        rw [List.length_map] at q
        exact q
      refine ⟨rfl, ?_⟩
      unfold tYes
      refine iteT ?_
      refine ⟨_, rfl, _, rfl, .inl ⟨u, rfl, _, upd_same, ?_, ?_⟩⟩
      · rw [List.length_map, List.length_replicate]
        exact Nat.lt_of_lt_of_le (show i < 1001 by omega) (by decide)
      · rw [upd_upd, List.replicate_succ', List.map_append]
        rfl
    · subst e
      refine ⟨D, _, rfl, SqL.of upd_same, ?_⟩
      rw [all_true]
      exact k _ (Same.new (Same.refl _) hD)
theorem scListOf : FnScope ["thing", "least", "most"] ["thing", "least", "most"] (defScope sListOf) := ⟨rfl, rfl, rfl, by decide +kernel, rfl, by decide +kernel, by decide +kernel⟩
theorem ok_listOf (F : FnP K "is_list_of_wholes" sListOf f fd) (GA : FnOk P w K mg base CX0 2 f1 fd1 ["things"] (spWholes K)) (gA : mg "are_wholes" = some (.ref f1)) (kA : PySem.W.keepIn K (.ref f1) = true) (bA : Binds K fd1 ["things"] [])
    (gIs : mg "isinstance" = none) (gList : mg "list" = none) (gLen : mg "len" = none) : FnOk P w K mg base CX0 3 f fd ["thing", "least", "most"] (spListOf K) := by
  refine F.ok scListOf (fun vs H Q E h => ?_) (fun cdv A outer s H vs Q E hr h => ?_)
  · obtain ⟨l, ns, lo, hi, rfl, _⟩ := h
    rfl
  · obtain ⟨l, ns, lo, hi, rfl, hl, few, h1, h2, k⟩ := h
    refine ⟨_, PSs.nox (pss_one (ps_ret (pe_and (pe_callB call_isi (by rfl) gIs boot_isinstance (pa_cons (pv 0) (pa_cons (pe_bltn (v := .ty "list") rfl gList PyProof.Rows.boot_list rfl) pa_nil)))
      (pe_and (pe_chain op_le op_le (pv 1) (pe_callB call_len_seq (by rfl) gLen PySem.boot_len (pa_cons (pv 0) pa_nil)) (pv 2)) (pe_one (pe_call GA hr rfl gA kA bA .nil pass0 (pa_cons (pv 0) pa_nil))))))), ?_⟩
    refine ⟨_, rfl, _, _, _, _, true, rfl, ClsV.ty _, TyX.base (TyOf.lst hl), kit_ty (by decide +kernel), _, rfl, iteT ?_⟩
    refine ⟨_, rfl, _, rfl, l, _, rfl, .inl (SqL.of hl), _, _, rfl, rfl, _, rfl, ?_⟩
    rw [List.length_map]
    refine ite2 (fun _ => ?_) (fun z => absurd (decide_eq_true h1) z)
    refine ⟨_, rfl, _, _, rfl, rfl, ?_⟩
    refine ⟨decide ((ns.length : Int) ≤ hi), rfl, ?_⟩
    rw [decide_eq_true h2]
    refine iteT ?_
    exact ⟨_, rfl, l, ns, rfl, SqL.of hl, few, k⟩
end
/-! ### is_truth -/
def spTruth : Sp := fun vs H Q _ => ∃ b : Bool, vs = [.bl b] ∧ Q (.bl true) H
section
variable {P : Program} {w : World} {K : PySem.W.Frag} {mg : Str → Option Value} {base : Heap} {f f1 f2 f3 f4 f5 f6 C CW CN : Addr} {fd fd1 fd2 fd3 fd4 fd5 fd6 : FuncData}
theorem scTruth : FnScope ["thing"] ["thing"] (defScope sTruth) := ⟨rfl, rfl, rfl, by decide +kernel, rfl, by decide +kernel, by decide +kernel⟩
theorem ok_truth (F : FnP K "is_truth" sTruth f fd) : FnOk P w K mg base CX0 1 f fd ["thing"] spTruth := by
  refine F.ok scTruth (fun vs H Q E h => ?_) (fun cdv A outer s H vs Q E hr h => ?_)
  · obtain ⟨b, rfl, _⟩ := h
    rfl
  · obtain ⟨b, rfl, k⟩ := h
    refine ⟨_, PSs.nox (pss_one (ps_ret (pe_or (pe_cmpR op_isBl (pv 0) pe_bl (nomark _)) (pe_one (pe_cmpR op_isBl (pv 0) pe_bl (nomark _)))))), ?_⟩
    cases b with
    | true => exact ⟨_, rfl, true, true, rfl, rfl, true, rfl, iteT k⟩
    | false => exact ⟨_, rfl, false, true, rfl, rfl, false, rfl, iteF ⟨_, rfl, false, false, rfl, rfl, k⟩⟩
end
end Sw
namespace Sw
open PySem PySem.Spec PyProof.Rows L2
abbrev sLDue : Stmt := top 29
abbrev sLRight : Stmt := top 30
abbrev sLaw : Stmt := top 31
theorem Kept.tupL {K : PySem.W.Frag} {b a : Addr} {H H1 : Hp} {xs ys : List V} (k : Kept b H H1) (hb : H b = some (.lst ys)) (h : SqT K H a xs) : SqT K H1 a xs := by
  rcases h with (h | ⟨o, h⟩) | h
  · exact .inl (.inl (k.at hb h (fun z => by cases z)))
  · exact .inl (.inr ⟨o, k.at hb h (fun z => by cases z)⟩)
  · exact .inr h
theorem Kept.past {p q : Addr} {H0 H : Hp} {o : HO} (k : Kept p H0 H) (h : H0 q = none) : Kept p H0 (L2.upd H q o) := fun b u n e => by
  rw [upd_ne (ne_of_none e h)]
  exact k b u n e
/-- a sort of node, as the law asks it: its objects (by an index), what a memory is behind so many firings, what is kept of it, what is due -/
structure Mach (K : PySem.W.Frag) (C : Addr) where
  ι : Type
  nd : ι → Addr
  node : ι → Addr → Hp → Prop
  mem : ι → Nat → Hp → V → Prop
  own : ι → Addr → Hp → V → Prop
  due : ι → Nat → Int
  ins : ∀ i p H, node i p H → ∃ fs, InsAt H (nd i) C fs ∧ ∀ m : Str, m ∈ (["takes", "gives", "fresh", "fire"] : List Str) → fs.lookup m = none
  nodeKept : ∀ i p H H1, PotAt H p → Kept p H H1 → node i p H → node i p H1
  ownKept : ∀ i p H H1 v, PotAt H p → Kept p H H1 → own i p H v → own i p H1 v
  memKept : ∀ i k b H H1 v (xs : List V), H b = some (.lst xs) → Kept b H H1 → mem i k H v → mem i k H1 v
  memKeep : ∀ i k H H1 v, Same H H1 → mem i k H v → mem i k H1 v
  small : ∀ i p H k, node i p H → k ≤ 200 → (due i k).natAbs.log2 < 1920
section
variable {K : PySem.W.Frag} {C : Addr} (M : Mach K C)
def spMTakes : Sp := fun vs H Q _ => ∃ (i : M.ι) (p : Addr), vs = [.ref (M.nd i)] ∧ M.node i p H ∧ ∀ t H', Same H H' → H' t = some (.tup [.int 1]) → Q (.ref t) H'
def spMGives : Sp := fun vs H Q _ => ∃ (i : M.ι) (p : Addr), vs = [.ref (M.nd i)] ∧ M.node i p H ∧ Q (.int 1) H
def spMFresh : Sp := fun vs H Q _ => ∃ (i : M.ι) (p : Addr), vs = [.ref (M.nd i)] ∧ M.node i p H ∧ ∀ v H', Same H H' → M.mem i 0 H' v → Q v H'
def spMFire : Sp := fun vs H Q _ => ∃ (i : M.ι) (p : Addr) (k : Nat) (v r : V), vs = [.ref (M.nd i), v, r] ∧ M.node i p H ∧ M.mem i k H v ∧ k ≤ 200 ∧
  ∀ (t l : Addr) (v' : V) (H' : Hp), Same H H' → H' t = some (.tup [v', .ref l]) → M.mem i (k + 1) H' v' → H' l = some (.lst [.int (M.due i k)]) → Q (.ref t) H'
def spMDue : Sp := fun vs H Q _ => ∃ (i : M.ι) (p : Addr) (k : Nat) (v : V), vs = [v, .int (k : Int)] ∧ M.node i p H ∧ M.own i p H v ∧ k ≤ 200 ∧ ∀ H', Same H H' → Q (.int (M.due i k)) H'
def spMRight : Sp := fun vs H Q _ => ∃ (i : M.ι) (p : Addr) (v : V), vs = [.ref p, .ref (M.nd i), v] ∧ PotAt H p ∧ M.node i p H ∧ M.own i p H v ∧ ∀ H', Kept p H H' → PotAt H' p → Q (.bl true) H'
end
theorem one_dp {K : PySem.W.Frag} {H : Hp} {l : Addr} {x : Int} (h : H l = some (.lst [.int x])) : Dp K H (.ref l) (.list [.int x]) := dp_at (ns := [x]) h
theorem oneD_show {x : Int} (h : x.natAbs.log2 < 1920) : (PyData.list [.int x]).showable = true := by
  simp [PyData.showable, PyData.showableAll, h]
theorem oneD_len {x : Int} (h : x.natAbs.log2 < 1920) : (PyData.list [.int x]).shown.length ≤ sizeLine := by
  refine Nat.le_trans (shown_list (B := 1921) fun d hd => ?_) (by show (1921 + 2) * 1 + 3 ≤ sizeLine; decide)
  rcases List.mem_cons.mp hd with rfl | hd
  · exact shown_num h
  · cases hd
theorem oneD_shaped (x : Int) : SeqAt.shaped (PyData.list [.int x]) = true := shaped_ints [x]
theorem ones_shaped : SeqAt.shaped (PyData.tuple [.int 1]) = true := by decide +kernel
theorem ones_eqv : PyData.eqv (PyData.tuple [.int 1]) (PyData.tuple [.int 1]) = true := by decide +kernel
section
variable {P : Program} {w : World} {K : PySem.W.Frag} {mg : Str → Option Value} {base : Heap} {f f1 f2 f3 f4 f5 f6 f7 C : Addr} {fd fd1 fd2 fd3 fd4 fd5 fd6 fd7 : FuncData}
theorem scLRight : FnScope ["_law_pot_here", "_law_node", "_law_own", "_law_memories", "_law_fired", "_law_k", "_law_at", "_law_due_here", "_law_elder", "_law_given"] ["_law_pot_here", "_law_node", "_law_own"] (defScope sLRight) := ⟨rfl, rfl, rfl, by decide +kernel, rfl, by decide +kernel, by decide +kernel⟩
theorem ok_lRight (M : Mach K C) (F : FnP K "_law_right" sLRight f fd) (c : Cls K C)
    (GT : FnOk P w K mg base CX0 1 f1 fd1 ["self"] (spMTakes M)) (mT : Meth K C "takes" f1) (bT : Binds K fd1 ["self"] []) (GG : FnOk P w K mg base CX0 1 f2 fd2 ["self"] (spMGives M)) (mG : Meth K C "gives" f2) (bG : Binds K fd2 ["self"] [])
    (GR : FnOk P w K mg base CX0 1 f3 fd3 ["self"] (spMFresh M)) (mR : Meth K C "fresh" f3) (bR : Binds K fd3 ["self"] []) (GF : FnOk P w K mg base CX0 3 f4 fd4 ["self", "memory", "rows"] (spMFire M)) (mF : Meth K C "fire" f4) (bF : Binds K fd4 ["self", "memory", "rows"] [])
    (GD : FnOk P w K mg base CX0 1 f5 fd5 ["_law_own", "_law_k"] (spMDue M)) (gD : mg "_law_due" = some (.ref f5)) (kD : PySem.W.keepIn K (.ref f5) = true) (bD : Binds K fd5 ["_law_own", "_law_k"] [])
    (GW : FnOk P w K mg base CX0 1 f6 fd6 ["_law_pot_here", "_law_many"] spDraw) (gW : mg "_law_draw" = some (.ref f6)) (kW : PySem.W.keepIn K (.ref f6) = true) (bW : Binds K fd6 ["_law_pot_here", "_law_many"] [])
    (GU : FnOk P w K mg base CX0 2 f7 fd7 ["_law_pot_here"] spNumber) (gU : mg "_law_number" = some (.ref f7)) (kU : PySem.W.keepIn K (.ref f7) = true) (bU : Binds K fd7 ["_law_pot_here"] [])
    (gRange : mg "range" = none) (gRepr : mg "repr" = none) : FnG P w K mg base CX0 6 f fd ["_law_pot_here", "_law_node", "_law_own"] (spMRight M) := by
  refine F.okG scLRight (fun vs H Q E h => ?_) (fun cdv A outer s H vs Q E hr guard h => ?_)
  · obtain ⟨i, p, v, rfl, _⟩ := h
    rfl
  · obtain ⟨i, p, ow, rfl, hp, hn, ho, k⟩ := h
    have hr3 : Room 3 _ := hr.mono (by decide)
    have hr2 : Room 2 _ := hr.mono (by decide)
    have hr1 : Room 1 _ := hr.mono (by decide)
    have un := hr.un
    have hu := hr.units
    have nd := scLRight.nd
    have R : ∀ {X : Cx}, X.A = A.deeper (envOfC "_law_right" (defScope sLRight) s.heap.objs.size f cdv) → CallR X (.builtin "repr") (rReprD X.K) := fun {X} e => call_reprD (by rw [e]; exact guard) (by rw [e]; omega)
    refine ⟨_, PSs.nox (pss_cons (ps_if (PW.pt (pw_or (pt_cmpR (op_neD hu) (pe_meth0 (pv 1) c mT GT hr1 bT .nil pass0) (pe_tup (pa_cons pe_int pa_nil)) (nomark _)) (pw_or1 (pt_cmpR op_ne (pe_meth0 (pv 1) c mG GG hr1 bG .nil pass0) pe_int (nomark _))))) (pss_one (ps_ret pe_bl)) pss_nil)
      (pss_cons (ps_set (i := 3) nd rfl (Or.inl rfl) (pe_lst (pa_cons (pe_meth0 (pv 1) c mR GR hr1 bR .nil pass0) (pa_cons (pe_meth0 (pv 1) c mR GR hr1 bR .nil pass0) pa_nil))))
      (pss_cons (ps_set (i := 4) nd rfl (Or.inl rfl) (pe_lst (pa_cons pe_int (pa_cons pe_int pa_nil))))
      (pss_cons (ps_for PassesOwn.never rfl (pi_range1 rfl gRange (pa_cons (pe_op op_add pe_int (pe_call GW hr1 rfl gW kW bW .nil pass0 (pa_cons (pv 0) (pa_cons (pe_ix ix_list (pe_lst (pa_cons pe_int (pa_cons pe_int pa_nil))) (pe_call GW hr1 rfl gW kW bW .nil pass0 (pa_cons (pv 0) (pa_cons pe_int pa_nil))) (fun _ _ => rfl)) pa_nil)))) pa_nil)) (pg_name (i := 5) nd rfl (Or.inl rfl))
        (pss_cons (ps_set (i := 6) nd rfl (Or.inl rfl) (pe_call GW hr1 rfl gW kW bW .nil pass0 (pa_cons (pv 0) (pa_cons pe_int pa_nil))))
        (pss_cons (ps_set (i := 7) nd rfl (Or.inl rfl) (pe_lst (pa_cons (pe_call GD hr1 rfl gD kD bD .nil pass0 (pa_cons (pv 2) (pa_cons (pe_ix ix_list (pv 4) (pv 6) (fun _ _ => rfl)) pa_nil))) pa_nil)))
        (pss_cons (ps_set (i := 8) nd rfl (Or.inl rfl) (pe_ix ix_list (pv 3) (pv 6) (fun _ _ => rfl)))
        (pss_cons (ps_asg (pe_meth (pv 1) c mF GF hr3 bF .nil pass0 (pa_cons (pv 8) (pa_cons (pe_lst (pa_cons (pe_lst (pa_cons (pe_call GU hr2 rfl gU kU bU .nil pass0 (pa_cons (pv 0) pa_nil)) pa_nil)) pa_nil)) pa_nil)))
            (pg_tup rfl (pgs_cons (pg_sub (pv 3) (pv 6) set_list (by intro _; rfl)) (pgs_cons (pg_name (i := 9) nd rfl (Or.inl rfl)) pgs_nil))))
        (pss_cons (ps_if (PW.pt (pw_or (pt_cmpR op_ne (pe_callB (R rfl) (by rfl) gRepr boot_repr (pa_cons (pv 9) pa_nil)) (pe_callB (R rfl) (by rfl) gRepr boot_repr (pa_cons (pv 7) pa_nil)) (nomark _))
            (pw_or1 (pt_cmpR (op_neD hu) (pe_ix ix_tup (pe_meth (pv 1) c mF GF hr3 bF .nil pass0 (pa_cons (pv 8) (pa_cons (pe_lst (pa_cons (pe_lst (pa_cons (pv 5) pa_nil)) pa_nil)) pa_nil))) pe_int (fun _ _ => rfl)) (pv 7) (nomark _))))) (pss_one (ps_ret pe_bl)) pss_nil)
        (pss_one (ps_asg (pe_op op_add (pe_ix ix_list (pv 4) (pv 6) (fun _ _ => rfl)) pe_int) (pg_sub (pv 4) (pv 6) set_list (by intro _; rfl))))))))))
      (pss_one (ps_ret pe_bl)))))), ?_⟩
    obtain ⟨fs, ⟨dx, hi⟩, no⟩ := M.ins i p H hn
    have noT := no "takes" (by decide +kernel)
    have noG := no "gives" (by decide +kernel)
    have noR := no "fresh" (by decide +kernel)
    have noF := no "fire" (by decide +kernel)
    have keepN : ∀ {H' : Hp}, Same H H' → M.node i p H' := fun s => M.nodeKept i p H _ hp (Kept.same s) hn
    -- takes and gives
    refine ⟨_, rfl, _, dx, fs, rfl, hi, noT, i, p, rfl, hn, fun t H1 s1 ht => ?_⟩
    refine ⟨(by show 1 ≤ sizeLine; decide), fun t2 ht2 => ?_⟩
    have s2 := Same.new (o := .tup [V.int 1]) s1 ht2
    have ht' := Same.new (o := .tup [V.int 1]) (Same.refl H1) ht2 _ _ ht
    refine ⟨_, _, .tup (.inl (.inl ht')) (.cons (.int 1) .nil), .tup (.inl (.inl upd_same)) (.cons (.int 1) .nil), ones_shaped, ones_shaped, ?_⟩
    rw [ones_eqv]
    refine ⟨_, rfl, iteF ?_⟩
    generalize upd H1 t2 (.tup [V.int 1]) = H2 at s2 ht'
    refine ⟨_, rfl, _, dx, fs, rfl, s2 _ _ hi, noG, i, p, rfl, keepN s2, rfl, _, rfl, iteNS rfl ?_⟩
    -- two memories
    refine ⟨_, rfl, _, dx, fs, rfl, s2 _ _ hi, noR, i, p, rfl, keepN s2, fun m1 H3 s3 hm1 => ?_⟩
    have t3 := s2.trans s3
    refine ⟨_, rfl, _, dx, fs, rfl, t3 _ _ hi, noR, i, p, rfl, keepN t3, fun m2 H4 s4 hm2 => ?_⟩
    have t4 := t3.trans s4
    have hm1 := M.memKeep _ _ _ _ _ s4 hm1
    refine ⟨(by show 2 ≤ sizeLine; decide), fun mm hmm => ⟨(by show 2 ≤ sizeLine; decide), fun ff hff => ?_⟩⟩
    have s5 := Same.new (o := .lst [m1, m2]) (Same.refl H4) hmm
    have s6 := Same.new (o := .lst [V.int 0, V.int 0]) s5 hff
    have t6 := t4.trans s6
    have hmm6 : (upd (upd H4 mm (.lst [m1, m2])) ff (.lst [V.int 0, V.int 0])) mm = some (.lst [m1, m2]) := Same.new (Same.refl _) hff _ _ upd_same
    have hff6 : (upd (upd H4 mm (.lst [m1, m2])) ff (.lst [V.int 0, V.int 0])) ff = some (.lst [V.int 0, V.int 0]) := upd_same
    have nmm : H mm = none := t4.free hmm
    have nff : H ff = none := (t4.trans s5).free hff
    have dmf : mm ≠ ff := fun z => by
      rw [← z, upd_same] at hff
      cases hff
    have npm : mm ≠ p := fun z => by
      obtain ⟨_, _, _, _, _, hx⟩ := hp
      rw [z, hx] at nmm
      cases nmm
    have npf : ff ≠ p := fun z => by
      obtain ⟨_, _, _, _, _, hx⟩ := hp
      rw [z, hx] at nff
      cases nff
    have hm1 := M.memKeep _ _ _ _ _ s6 hm1
    have hm2 := M.memKeep _ _ _ _ _ s6 hm2
    have hp6 := hp.keep t6
    generalize upd (upd H4 mm (.lst [m1, m2])) ff (.lst [V.int 0, V.int 0]) = H6 at t6 hmm6 hff6 hm1 hm2 hp6
    -- how many firings
    refine ⟨_, rfl, (by show 2 ≤ sizeLine; decide), fun lw hlw => ?_⟩
    have s7 := Same.new (o := .lst [V.int 12, V.int 130]) (Same.refl H6) hlw
    have hp7 := hp6.keep s7
    refine ⟨_, rfl, p, 2, rfl, hp7, by decide, by decide, fun d0 H8 a0 a1 k8 hp8 => ?_⟩
    have nlw : lw ≠ p := fun z => by
      obtain ⟨_, _, _, _, _, hx⟩ := hp6
      rw [z, hx] at hlw
      cases hlw
    have hlw8 := k8 lw _ nlw upd_same
    obtain ⟨mx, emx, m0, m130⟩ : ∃ mx : Int, atI [V.int 12, V.int 130] d0 = some (.int mx) ∧ 0 < mx ∧ mx ≤ 130 := by
      have : d0 = 0 ∨ d0 = 1 := by omega
      rcases this with rfl | rfl
      · exact ⟨12, rfl, by decide, by decide⟩
      · exact ⟨130, rfl, by decide, by decide⟩
    refine ⟨lw, _, _, _, rfl, rfl, SqL.of hlw8, emx, p, mx, rfl, hp8, m0, by omega, fun n H9 n0 n1 k9 hp9 => ?_⟩
    refine ⟨_, _, rfl, rfl, _, rfl, by omega, by omega, ?_⟩
    have kS : Kept p H H9 := ((Kept.same t6).new (o := .lst [V.int 12, V.int 130]) hlw).trans (k8.trans k9)
    have k69 : Kept p H6 H9 := (Kept.same s7).trans (k8.trans k9)
    obtain ⟨pa, pb, _, _, _, hpp⟩ := id hp6
    refine for_range (fun j σ H' => ∃ (w5 w6 w7 w8 w9 : Option V) (m1 m2 : V) (k1 k2 : Nat), σ = [some (.ref p), some (.ref (M.nd i)), some ow, some (.ref mm), some (.ref ff), w5, w6, w7, w8, w9] ∧ Kept p H H' ∧ PotAt H' p ∧ H' mm = some (.lst [m1, m2]) ∧ H' ff = some (.lst [.int (k1 : Int), .int (k2 : Int)]) ∧ M.mem i k1 H' m1 ∧ M.mem i k2 H' m2 ∧ k1 + k2 = j)
      ⟨_, _, _, _, _, m1, m2, 0, 0, rfl, kS, hp9, k69 _ _ npm hmm6, k69 _ _ npf hff6, M.memKept _ _ _ _ _ _ _ hpp k69 hm1, M.memKept _ _ _ _ _ _ _ hpp k69 hm2, rfl⟩ ?_ ?_
    · rintro j σ G hj ⟨w5, w6, w7, w8, w9, e1, e2, k1, k2, rfl, kG, hpG, hmG, hfG, q1, q2, ksum⟩
      have hj131 : j < 131 := by omega
      refine ⟨_, rfl, p, 2, rfl, hpG, by decide, by decide, fun d G1 b0 b1 l1 hp1 => ?_⟩
      have kG1 := kG.trans l1
      have hm1' := l1 _ _ npm hmG
      have hf1' := l1 _ _ npf hfG
      obtain ⟨pa1, pb1, _, _, _, hppG⟩ := id hpG
      have q1' := M.memKept _ _ _ _ _ _ _ hppG l1 q1
      have q2' := M.memKept _ _ _ _ _ _ _ hppG l1 q2
      -- which one
      obtain ⟨jn, el, kk, x1, x2, x3, x4, x5, x6⟩ : ∃ (jn : Nat) (el : V) (kk : Nat), ixN 2 d = some jn ∧ atI [e1, e2] d = some el ∧ atI [V.int (k1 : Int), V.int (k2 : Int)] d = some (.int (kk : Int)) ∧ M.mem i kk G1 el ∧ kk ≤ j ∧
          (∀ e' : V, ∃ u1 u2 : V, [e1, e2].set jn e' = [u1, u2] ∧ ∃ c1 c2 : Nat, [V.int (k1 : Int), V.int (k2 : Int)].set jn (.int ((kk : Int) + 1)) = [V.int (c1 : Int), V.int (c2 : Int)] ∧ c1 + c2 = j + 1 ∧ ∀ G' : Hp, M.mem i k1 G' e1 → M.mem i k2 G' e2 → M.mem i (kk + 1) G' e' → M.mem i c1 G' u1 ∧ M.mem i c2 G' u2) := by
        have : d = 0 ∨ d = 1 := by omega
        rcases this with rfl | rfl
        · exact ⟨0, e1, k1, rfl, rfl, rfl, q1', by omega, fun e' => ⟨e', e2, rfl, k1 + 1, k2, rfl, by omega, fun G' a b c => ⟨c, b⟩⟩⟩
        · exact ⟨1, e2, k2, rfl, rfl, rfl, q2', by omega, fun e' => ⟨e1, e', rfl, k1, k2 + 1, rfl, by omega, fun G' a b c => ⟨a, c⟩⟩⟩
      have hn1 := M.nodeKept i p H G1 hp kG1 hn
      have ho1 := M.ownKept i p H G1 ow hp kG1 ho
      refine ⟨_, rfl, _, rfl, _, rfl, ff, _, _, _, rfl, rfl, SqL.of hf1', x3, i, p, kk, ow, rfl, hn1, ho1, by omega, fun G2 s2' => ?_⟩
      refine ⟨(by show 1 ≤ sizeLine; decide), fun ld hld => ?_⟩
      have s3' := Same.new (o := .lst [V.int (M.due i kk)]) s2' hld
      have hld3 : (upd G2 ld (.lst [V.int (M.due i kk)])) ld = some (.lst [V.int (M.due i kk)]) := upd_same
      generalize upd G2 ld (.lst [V.int (M.due i kk)]) = G3 at s3' hld3
      have hm3 := s3' _ _ hm1'
      have hf3 := s3' _ _ hf1'
      refine ⟨_, rfl, _, rfl, mm, _, _, _, rfl, rfl, SqL.of hm3, x2, ?_⟩
      have kG3 : Kept p H G3 := kG1.trans (Kept.same s3')
      have hn3 := M.nodeKept i p H G3 hp kG3 hn
      obtain ⟨fs3, ⟨dx3, hi3⟩, no3⟩ := M.ins i p G3 hn3
      refine ⟨_, rfl, _, dx3, fs3, rfl, hi3, no3 "fire" (by decide +kernel), _, rfl, ?_⟩
      have hp3 := hp1.keep s3'
      refine ⟨_, rfl, p, rfl, hp3, fun x G4 _ _ k4 hp4 => ?_⟩
      obtain ⟨pa3, pb3, _, _, _, hpp3⟩ := id hp3
      have kG4 := kG3.trans k4
      have hm4 := k4 _ _ npm hm3
      have hf4 := k4 _ _ npf hf3
      have nld : ld ≠ p := fun z => by
        rw [z, hpp3] at hld3
        obtain ⟨_, _, _, _, _, hx⟩ := hp1.keep s2'
        rw [z, hx] at hld
        cases hld
      have hld4 := k4 _ _ nld hld3
      have y1 := M.memKept _ _ _ _ _ _ _ hpp3 k4 (M.memKeep _ _ _ _ _ s3' q1')
      have y2 := M.memKept _ _ _ _ _ _ _ hpp3 k4 (M.memKeep _ _ _ _ _ s3' q2')
      have y3 := M.memKept _ _ _ _ _ _ _ hpp3 k4 (M.memKeep _ _ _ _ _ s3' x4)
      refine ⟨(by show 1 ≤ sizeLine; decide), fun r0 hr0 => ⟨(by show 1 ≤ sizeLine; decide), fun rt hrt => ?_⟩⟩
      have s5' := Same.new (o := .lst [V.ref r0]) (Same.new (o := .lst [V.int x]) (Same.refl G4) hr0) hrt
      generalize upd (upd G4 r0 (.lst [V.int x])) rt (.lst [V.ref r0]) = G5 at s5'
      have kG5 : Kept p H G5 := kG4.trans (Kept.same s5')
      refine ⟨i, p, kk, el, .ref rt, rfl, M.nodeKept i p H G5 hp kG5 hn, M.memKeep _ _ _ _ _ s5' y3, by omega, fun t l v' G6 s6' ht6 hv6 hl6 => ?_⟩
      have t6' := s5'.trans s6'
      have hm6 := t6' _ _ hm4
      obtain ⟨u1, u2, eset, c1, c2, efired, csum, mems⟩ := x6 v'
      refine ⟨t, _, rfl, .inl (.inl ht6), rfl, _, _, rfl, ?_⟩
      refine ⟨_, rfl, _, rfl, mm, _, _, jn, rfl, rfl, hm6, x1, ?_⟩
      rw [eset]
      refine ⟨_, _, rfl, rfl, ?_⟩
      have kB : Kept mm G6 (upd G6 mm (.lst [u1, u2])) := Kept.upd Kept.refl
      obtain ⟨z1, z2⟩ := mems (upd G6 mm (.lst [u1, u2])) (M.memKept _ _ _ _ _ _ _ hm6 kB (M.memKeep _ _ _ _ _ t6' y1)) (M.memKept _ _ _ _ _ _ _ hm6 kB (M.memKeep _ _ _ _ _ t6' y2)) (M.memKept _ _ _ _ _ _ _ hm6 kB hv6)
      have z3 := M.memKept _ _ _ _ _ _ _ hm6 kB (M.memKeep _ _ _ _ _ t6' y3)
      have hl7 := kB.at hm6 hl6 (fun z => by cases z)
      have hld7 := kB.at hm6 (t6' _ _ hld4) (fun z => by cases z)
      have hf7 := kB _ _ dmf.symm (t6' _ _ hf4)
      have hm7 : (upd G6 mm (.lst [u1, u2])) mm = some (.lst [u1, u2]) := upd_same
      have kG7 : Kept p H (upd G6 mm (.lst [u1, u2])) := (kG4.trans (Kept.same t6')).past nmm
      have hp7' : PotAt (upd G6 mm (.lst [u1, u2])) p := by
        obtain ⟨a1, a2, a3, a4, a5, a6⟩ := hp4.keep t6'
        exact ⟨a1, a2, a3, a4, a5, by rw [upd_ne npm.symm]; exact a6⟩
      generalize upd G6 mm (.lst [u1, u2]) = G7 at z1 z2 z3 hl7 hld7 hf7 hm7 kG7 hp7'
      have dl := M.small i p H kk hn (by omega)
      obtain ⟨S, hS⟩ : ∃ S, (PyData.list [.int (M.due i kk)]).shown = S := ⟨_, rfl⟩
      refine ⟨_, rfl, l, _, S, rfl, one_dp hl7, oneD_shaped _, oneD_show dl, oneD_len dl, hS, ?_⟩
      refine ⟨_, rfl, ld, _, S, rfl, one_dp hld7, oneD_shaped _, oneD_show dl, oneD_len dl, hS, rfl, _, rfl, iteNS rfl ?_⟩
      have hn7 := M.nodeKept i p H G7 hp kG7 hn
      obtain ⟨fs7, ⟨dx7, hi7⟩, no7⟩ := M.ins i p G7 hn7
      refine ⟨_, rfl, _, dx7, fs7, rfl, hi7, no7 "fire" (by decide +kernel), _, rfl, ?_⟩
      refine ⟨_, rfl, (by show 1 ≤ sizeLine; decide), fun r1 hr1' => ⟨(by show 1 ≤ sizeLine; decide), fun rt1 hrt1 => ?_⟩⟩
      have s8' := Same.new (o := .lst [V.ref r1]) (Same.new (o := .lst [V.int (0 + (j : Int))]) (Same.refl G7) hr1') hrt1
      generalize upd (upd G7 r1 (.lst [V.int (0 + (j : Int))])) rt1 (.lst [V.ref r1]) = G8 at s8'
      refine ⟨i, p, kk, el, .ref rt1, rfl, M.nodeKept i p H G8 hp (kG7.trans (Kept.same s8')) hn, M.memKeep _ _ _ _ _ s8' z3, by omega, fun t9 l9 v9 G9 s9' ht9 _ hl9 => ?_⟩
      have t9' := s8'.trans s9'
      refine ⟨t9, _, _, _, rfl, rfl, .inl (.inl ht9), atI_nat (j := 1) rfl, _, rfl, _, _, one_dp hl9, one_dp (t9' _ _ hld7), oneD_shaped _, oneD_shaped _, ?_⟩
      rw [show PyData.eqv (.list [.int (M.due i kk)]) (.list [.int (M.due i kk)]) = true from eqv_ints [M.due i kk]]
      refine ⟨_, rfl, iteF ?_⟩
      have hf9 := t9' _ _ hf7
      refine ⟨_, rfl, _, rfl, ff, _, _, _, rfl, rfl, SqL.of hf9, x3, _, _, rfl, rfl, ?_⟩
      refine ⟨_, rfl, _, rfl, ff, _, _, jn, rfl, rfl, hf9, x1, ?_⟩
      show ∃ (w5 w6 w7 w8 w9 : Option V) (m1 m2 : V) (k1 k2 : Nat), _
      rw [efired]
      have kC : Kept ff G9 (upd G9 ff (.lst [V.int (c1 : Int), V.int (c2 : Int)])) := Kept.upd Kept.refl
      refine ⟨_, _, _, _, _, u1, u2, c1, c2, rfl, (kG7.trans (Kept.same t9')).past nff, ?_, kC _ _ dmf (t9' _ _ hm7), upd_same, M.memKept _ _ _ _ _ _ _ hf9 kC (M.memKeep _ _ _ _ _ t9' z1), M.memKept _ _ _ _ _ _ _ hf9 kC (M.memKeep _ _ _ _ _ t9' z2), csum⟩
      obtain ⟨a1, a2, a3, a4, a5, a6⟩ := hp7'.keep t9'
      exact ⟨a1, a2, a3, a4, a5, by rw [upd_ne npf.symm]; exact a6⟩
    · rintro σ G ⟨w5, w6, w7, w8, w9, e1, e2, k1, k2, rfl, kG, hpG, _⟩
      exact k G kG hpG
end
end Sw
namespace Sw
open PySem PySem.Spec PyProof.Rows L2
abbrev sCountInit : Stmt := inClass (top 19) 0
abbrev sCountTakes : Stmt := inClass (top 19) 1
abbrev sCountGives : Stmt := inClass (top 19) 2
abbrev sCountFresh : Stmt := inClass (top 19) 5
abbrev sCountFire : Stmt := inClass (top 19) 6
abbrev sCountWork : Stmt := inClass (top 19) 7
abbrev sTapeInit : Stmt := inClass (top 20) 0
abbrev sTapeTakes : Stmt := inClass (top 20) 1
abbrev sTapeGives : Stmt := inClass (top 20) 2
abbrev sTapeFresh : Stmt := inClass (top 20) 5
abbrev sTapeFire : Stmt := inClass (top 20) 6
abbrev sTapeWork : Stmt := inClass (top 20) 7
def Num (n : Int) : Prop := -(10 ^ 56) < n ∧ n < 10 ^ 56
theorem nodeF_be (tm : Addr) (l b : Int) (fs : List (Str × V)) : (nodeF tm l b fs).lookup ("begin_at" : Str) = some (.int b) := by
  unfold nodeF
  rw [lookup_putF, if_pos rfl]
theorem nodeF_no {tm : Addr} {l b : Int} {fs : List (Str × V)} {m : Str} (h1 : m ≠ "begin_at") (h2 : m ≠ "late_by") (h3 : m ≠ "made") : (nodeF tm l b fs).lookup m = fs.lookup m := by
  unfold nodeF
  rw [lookup_putF, if_neg h1, lookup_putF, if_neg h2, lookup_putF, if_neg h3]
theorem nodeF_le (tm : Addr) (l b : Int) (fs : List (Str × V)) : (nodeF tm l b fs).length ≤ fs.length + 3 := by
  unfold nodeF
  have l1 := putF_le "made" (.ref tm) fs
  have l2 := putF_le "late_by" (.int l) (putF "made" (.ref tm) fs)
  have l3 := putF_le "begin_at" (.int b) (putF "late_by" (.int l) (putF "made" (.ref tm) fs))
  omega
/-! ### Count -/
structure CountFs (fs : List (Str × V)) (a s z b : Int) : Prop where
  fi : fs.lookup ("first" : Str) = some (.int a)
  st : fs.lookup ("step" : Str) = some (.int s)
  si : fs.lookup ("size" : Str) = some (.int z)
  be : fs.lookup ("begin_at" : Str) = some (.int b)
  no : ∀ m : Str, m ≠ "first" → m ≠ "step" → m ≠ "size" → m ≠ "begin_at" → m ≠ "late_by" → m ≠ "made" → fs.lookup m = none
theorem countFs_mk (tm : Addr) (l a s z b : Int) : CountFs (putF "size" (.int z) (putF "step" (.int s) (putF "first" (.int a) (nodeF tm l b [])))) a s z b := by
  refine ⟨?_, ?_, ?_, ?_, fun m h1 h2 h3 h4 h5 h6 => ?_⟩
  · rw [lookup_putF, if_neg (by decide +kernel), lookup_putF, if_neg (by decide +kernel), lookup_putF, if_pos rfl]
  · rw [lookup_putF, if_neg (by decide +kernel), lookup_putF, if_pos rfl]
  · rw [lookup_putF, if_pos rfl]
  · rw [lookup_putF, if_neg (by decide +kernel), lookup_putF, if_neg (by decide +kernel), lookup_putF, if_neg (by decide +kernel), nodeF_be]
  · rw [lookup_putF, if_neg h3, lookup_putF, if_neg h2, lookup_putF, if_neg h1, nodeF_no h4 h5 h6]
    rfl
structure CountC (K : PySem.W.Frag) (C : Addr) : Prop where
  n : NodeC K C
  fi : NoAttr K C "first"
  st : NoAttr K C "step"
  si : NoAttr K C "size"
def spCountInit (K : PySem.W.Frag) (C : Addr) : Sp := fun vs H Q _ => ∃ (p dx : Addr) (a s z l b : Int), vs = [.ref p, .int a, .int s, .int z, .int l, .int b] ∧ H p = some (.ins C dx []) ∧ 0 ≤ z ∧ (0 ≤ l ∧ l ≤ 99) ∧ (0 ≤ b ∧ b ≤ 9999) ∧
  ∀ (fs : List (Str × V)) (H' : Hp), CountFs fs a s z b → Kept p H H' → H' p = some (.ins C dx fs) → Q .non H'
structure CI where
  nd : Addr
  a : Int
  s : Int
  z : Int
def countAt (i : CI) (k : Nat) : Int := i.a + (k : Int) * i.s
def countDue (i : CI) (k : Nat) : Int := if 0 < i.z then countAt i k % i.z else countAt i k
theorem count_next (i : CI) (k : Nat) : countAt i k + i.s = countAt i (k + 1) := by
  unfold countAt
  rw [Int.natCast_succ, Int.add_mul, Int.one_mul]
  omega
theorem count_big {i : CI} {k : Nat} (ha : Num i.a) (hs : Num i.s) (hk : k ≤ 200) : (countAt i k).natAbs < 2 ^ 200 := by
  unfold Num at ha hs
  unfold countAt
  have h1 : (k : Int) * i.s ≤ 200 * 10 ^ 56 := by
    by_cases h : 0 ≤ i.s
    · exact Int.le_trans (Int.mul_le_mul_of_nonneg_right (show (k : Int) ≤ 200 by omega) h) (Int.mul_le_mul_of_nonneg_left (by omega) (by decide))
    · exact Int.le_trans (Int.mul_nonpos_of_nonneg_of_nonpos (by omega) (by omega)) (by decide)
  have h2 : -(200 * 10 ^ 56) ≤ (k : Int) * i.s := by
    by_cases h : 0 ≤ i.s
    · exact Int.le_trans (by decide) (Int.mul_nonneg (show (0 : Int) ≤ (k : Int) by omega) h)
    · have h3 : (k : Int) * (-i.s) ≤ 200 * 10 ^ 56 := Int.le_trans (Int.mul_le_mul_of_nonneg_right (show (k : Int) ≤ 200 by omega) (by omega)) (Int.mul_le_mul_of_nonneg_left (by omega) (by decide))
      rw [Int.mul_neg] at h3
      omega
  omega
def countNode (C : Addr) (i : CI) (H : Hp) : Prop := ∃ fs, InsAt H i.nd C fs ∧ CountFs fs i.a i.s i.z 0 ∧ Num i.a ∧ Num i.s ∧ 0 ≤ i.z ∧ i.z ≤ 10 ^ 56
def countM (K : PySem.W.Frag) (C : Addr) : Mach K C where
  ι := CI
  nd := CI.nd
  node := fun i _ H => countNode C i H
  mem := fun i k H v => ∃ q, v = .ref q ∧ SqT K H q [.int 0, .int (countAt i k)]
  own := fun i _ H v => ∃ o, v = .ref o ∧ H o = some (.lst [.int i.a, .int i.s, .int i.z])
  due := countDue
  ins := fun i p H ⟨fs, h, c, _⟩ => ⟨fs, h, fun m hm => by
    have : m = "takes" ∨ m = "gives" ∨ m = "fresh" ∨ m = "fire" := by simpa using hm
    rcases this with rfl | rfl | rfl | rfl
    all_goals exact c.no _ (by decide +kernel) (by decide +kernel) (by decide +kernel) (by decide +kernel) (by decide +kernel) (by decide +kernel)⟩
  nodeKept := fun i p H H1 hp k ⟨fs, h, c⟩ => ⟨fs, h.kept k hp, c⟩
  ownKept := fun i p H H1 v hp k ⟨o, e, h⟩ => by
    obtain ⟨x, y, _, _, _, hp⟩ := hp
    exact ⟨o, e, k.at hp h (fun z => by cases z)⟩
  memKept := fun i k b H H1 v xs hb kk ⟨q, e, h⟩ => ⟨q, e, kk.tupL hb h⟩
  memKeep := fun i k H H1 v s ⟨q, e, h⟩ => ⟨q, e, Same.tup s h⟩
  small := fun i p H k ⟨fs, _, _, ha, hs, z0, z1⟩ hk => by
    refine log2_of (b := 200) ?_ (by decide) (by decide)
    unfold countDue
    split
    · rename_i h
      have h1 := Int.emod_nonneg (countAt i k) (show i.z ≠ 0 by omega)
      have h2 := Int.emod_lt_of_pos (countAt i k) h
      omega
    · exact count_big ha hs hk
def spCountWork (K : PySem.W.Frag) (C : Addr) : Sp := fun vs H Q _ => ∃ (nd : Addr) (fs : List (Str × V)) (a s z b kept : Int) (r : V), vs = [.ref nd, .int kept, r] ∧ InsAt H nd C fs ∧ CountFs fs a s z b ∧
  ∀ (t l : Addr) (H' : Hp), Same H H' → SqT K H' t [.int (kept + s), .ref l] → H' l = some (.lst [.int (if 0 < z then kept % z else kept)]) → Q (.ref t) H'
theorem wide_countWork {K : PySem.W.Frag} {C : Addr} : Wide1 (spCountWork K C) := by
  rintro vs H Q Q' E hq ⟨nd, fs, a, s, z, b, kept, r, e, h1, h2, k⟩
  exact ⟨nd, fs, a, s, z, b, kept, r, e, h1, h2, fun t l H' a1 a2 a3 => hq _ _ (k t l H' a1 a2 a3)⟩
section
variable {P : Program} {w : World} {K : PySem.W.Frag} {mg : Str → Option Value} {base : Heap} {f f1 f2 f3 f4 f5 f6 C CN : Addr} {fd fd1 fd2 fd3 fd4 fd5 fd6 : FuncData}
theorem scCountTakes : FnScope ["self"] ["self"] (defScope sCountTakes) := ⟨rfl, rfl, rfl, by decide +kernel, rfl, by decide +kernel, by decide +kernel⟩
theorem ok_countTakes (M : Mach K C) (F : FnM K "takes" "Count.takes" sCountTakes f fd) : FnOk P w K mg base CX0 1 f fd ["self"] (spMTakes M) := by
  refine F.ok scCountTakes (fun vs H Q E h => ?_) (fun cdv A outer s H vs Q E hr h => ?_)
  · obtain ⟨i, p, rfl, _⟩ := h
    rfl
  · obtain ⟨i, p, rfl, hn, k⟩ := h
    refine ⟨_, PSs.nox (pss_one (ps_ret (pe_tup (pa_cons pe_int pa_nil)))), ?_⟩
    exact ⟨(by show 1 ≤ sizeLine; decide), fun t ht => k t _ (Same.new (Same.refl _) ht) upd_same⟩
theorem scCountGives : FnScope ["self"] ["self"] (defScope sCountGives) := ⟨rfl, rfl, rfl, by decide +kernel, rfl, by decide +kernel, by decide +kernel⟩
theorem ok_countGives {sp : Sp} (hsp : ∀ vs H Q E, sp vs H Q E → vs.length = 1 ∧ Q (.int 1) H) (F : FnM K "gives" "Count.gives" sCountGives f fd) : FnOk P w K mg base CX0 1 f fd ["self"] sp := by
  refine F.ok scCountGives (fun vs H Q E h => (hsp vs H Q E h).1) (fun cdv A outer s H vs Q E hr h => ?_)
  exact ⟨_, PSs.nox (pss_one (ps_ret pe_int)), (hsp vs H Q E h).2⟩
theorem scCountFresh : FnScope ["self"] ["self"] (defScope sCountFresh) := ⟨rfl, rfl, rfl, by decide +kernel, rfl, by decide +kernel, by decide +kernel⟩
theorem ok_countFresh (F : FnM K "fresh" "Count.fresh" sCountFresh f fd) (T : CountC K C) : FnOk P w K mg base CX0 1 f fd ["self"] (spMFresh (countM K C)) := by
  refine F.ok scCountFresh (fun vs H Q E h => ?_) (fun cdv A outer s H vs Q E hr h => ?_)
  · obtain ⟨i, p, rfl, _⟩ := h
    rfl
  · obtain ⟨i, p, rfl, ⟨fs, ⟨dx, hi⟩, c, _⟩, k⟩ := h
    refine ⟨_, PSs.nox (pss_one (ps_ret (pe_tup (pa_cons (pe_fld (pv 0) rfl) (pa_cons (pe_fld (pv 0) rfl) pa_nil))))), ?_⟩
    refine ⟨_, rfl, _, C, dx, _, _, rfl, hi, T.n.cl, T.n.nB, c.be, _, rfl, _, C, dx, _, _, rfl, hi, T.n.cl, T.fi, c.fi, (by show 2 ≤ sizeLine; decide), fun q hq => ?_⟩
    refine k _ _ (Same.new (Same.refl _) hq) ⟨q, rfl, .inl (.inl ?_)⟩
    have e : countAt i 0 = i.a := by
      unfold countAt
      rw [Int.natCast_zero, Int.zero_mul, Int.add_zero]
    rw [e]
    exact upd_same
theorem scCountWork : FnScope ["self", "kept", "rows", "number"] ["self", "kept", "rows"] (defScope sCountWork) := ⟨rfl, rfl, rfl, by decide +kernel, rfl, by decide +kernel, by decide +kernel⟩
theorem ok_countWork (F : FnM K "work" "Count.work" sCountWork f fd) (T : CountC K C) : FnOk P w K mg base CX0 1 f fd ["self", "kept", "rows"] (spCountWork K C) := by
  refine F.ok scCountWork (fun vs H Q E h => ?_) (fun cdv A outer s H vs Q E hr h => ?_)
  · obtain ⟨nd, fs, a, s, z, b, kept, r, rfl, _⟩ := h
    rfl
  · obtain ⟨nd, fs, a, st, z, b, kept, r, rfl, ⟨dx, hi⟩, c, k⟩ := h
    refine ⟨_, PSs.nox (pss_cons (ps_set (i := 3) scCountWork.nd rfl (Or.inl rfl) (pe_ifExp (pt_cmpR op_gt (pe_fld (pv 0) rfl) pe_int (nomark _)) (pe_op op_mod (pv 1) (pe_fld (pv 0) rfl)) (pv 1)))
      (pss_one (ps_ret (pe_tup (pa_cons (pe_op op_add (pv 1) (pe_fld (pv 0) rfl)) (pa_cons (pe_lst (pa_cons (pv 3) pa_nil)) pa_nil)))))), ?_⟩
    refine ⟨_, rfl, nd, C, dx, _, _, rfl, hi, T.n.cl, T.si, c.si, _, _, rfl, rfl, _, rfl, ?_⟩
    have rest : ∀ n : Int, n = (if 0 < z then kept % z else kept) → ∀ l, H l = none → ∀ t, (upd H l (.lst [V.int n])) t = none → Q (.ref t) (upd (upd H l (.lst [V.int n])) t (.tup [V.int (kept + st), V.ref l])) := by
      intro n en l hl t ht
      refine k t l _ (Same.new (Same.new (Same.refl _) hl) ht) (.inl (.inl upd_same)) ?_
      rw [← en]
      exact Same.new (Same.refl _) ht _ _ upd_same
    refine ite2 (fun h => ?_) (fun h => ?_)
    · have hz : 0 < z := of_decide_eq_true h
      refine ⟨_, rfl, _, rfl, nd, C, dx, _, _, rfl, hi, T.n.cl, T.si, c.si, _, _, rfl, rfl, hz, ?_⟩
      refine ⟨_, rfl, _, rfl, nd, C, dx, _, _, rfl, hi, T.n.cl, T.st, c.st, _, _, rfl, rfl, ?_⟩
      refine ⟨_, rfl, (by show 1 ≤ sizeLine; decide), fun l hl => ⟨(by show 2 ≤ sizeLine; decide), fun t ht => ?_⟩⟩
      exact rest _ (by rw [if_pos hz]) l hl t ht
    · have hz : ¬ 0 < z := fun e => h (decide_eq_true e)
      refine ⟨_, rfl, ?_⟩
      refine ⟨_, rfl, _, rfl, nd, C, dx, _, _, rfl, hi, T.n.cl, T.st, c.st, _, _, rfl, rfl, ?_⟩
      refine ⟨_, rfl, (by show 1 ≤ sizeLine; decide), fun l hl => ⟨(by show 2 ≤ sizeLine; decide), fun t ht => ?_⟩⟩
      exact rest _ (by rw [if_neg hz]) l hl t ht
theorem scCountFire : FnScope ["self", "memory", "rows"] ["self", "memory", "rows"] (defScope sCountFire) := ⟨rfl, rfl, rfl, by decide +kernel, rfl, by decide +kernel, by decide +kernel⟩
theorem ok_countFire (F : FnM K "fire" "Count.fire" sCountFire f fd) (GF : FnOk P w K mg base CX0 2 f1 fd1 ["node", "memory", "rows"] (spFiring K C (spCountWork K C))) (gF : mg "run_firing" = some (.ref f1)) (kF : PySem.W.keepIn K (.ref f1) = true) (bF : Binds K fd1 ["node", "memory", "rows"] []) :
    FnOk P w K mg base CX0 3 f fd ["self", "memory", "rows"] (spMFire (countM K C)) := by
  refine F.ok scCountFire (fun vs H Q E h => ?_) (fun cdv A outer s H vs Q E hr h => ?_)
  · obtain ⟨i, p, k, v, r, rfl, _⟩ := h
    rfl
  · obtain ⟨i, p, k, v, r, rfl, ⟨fs, hi, c, _⟩, ⟨q, rfl, hq⟩, hk, kk⟩ := h
    refine ⟨_, PSs.nox (pss_one (ps_ret (pe_call GF hr rfl gF kF bF .nil pass0 (pa_cons (pv 0) (pa_cons (pv 1) (pa_cons (pv 2) pa_nil)))))), ?_⟩
    refine ⟨_, rfl, _, rfl, _, rfl, i.nd, q, fs, 0, .int (countAt i k), r, rfl, hi, c.no _ (by decide +kernel) (by decide +kernel) (by decide +kernel) (by decide +kernel) (by decide +kernel) (by decide +kernel), c.no _ (by decide +kernel) (by decide +kernel) (by decide +kernel) (by decide +kernel) (by decide +kernel) (by decide +kernel), hq, .inr ⟨by decide, ?_⟩⟩
    refine ⟨i.nd, fs, i.a, i.s, i.z, 0, countAt i k, r, rfl, hi, c, fun t l H1 s1 ht hl => ?_⟩
    refine ⟨t, _, _, rfl, s1, ht, fun t2 t3 H2 s2 _ h2 h3 => ?_⟩
    refine kk t2 l (.ref t3) H2 (s1.trans s2) h2 ⟨t3, rfl, .inl (.inl ?_)⟩ (s2 _ _ hl)
    exact h3.trans (congrArg (fun z : Int => some (HO.tup [V.int 0, V.int z])) (count_next i k))
theorem scCountInit : FnScope ["self", "first", "step", "size", "late", "begin"] ["self", "first", "step", "size", "late", "begin"] (defScope sCountInit) := ⟨rfl, rfl, rfl, by decide +kernel, rfl, by decide +kernel, by decide +kernel⟩
theorem ok_countInit {dvs : List V} {kws : List (Str × V)} (F : FunD K "__init__" "Count.__init__" (defArgs sCountInit) (defBody sCountInit) (defScope sCountInit) dvs kws f fd) (GN : FnOk P w K mg base CX0 1 f1 fd1 ["holds", "field"] spNeed) (gN : mg "need" = some (.ref f1)) (kN : PySem.W.keepIn K (.ref f1) = true) (bN : Binds K fd1 ["holds", "field"] [])
    (GI : FnOk P w K mg base CX0 1 f2 fd2 ["thing"] (spWhole K)) (gI : mg "is_whole" = some (.ref f2)) (kI : PySem.W.keepIn K (.ref f2) = true) (bI : Binds K fd2 ["thing"] [])
    (GB : FnOk P w K mg base CX0 3 f3 fd3 ["self", "arguments", "late", "begin"] (spNodeInit K C)) (gB : mg "Node" = some (.ref CN)) (mB : BaseM K CN "__init__" f3) (bB : Binds K fd3 ["self", "arguments", "late", "begin"] [])
    (T : CountC K C) : FnOk P w K mg base CX0 4 f fd ["self", "first", "step", "size", "late", "begin"] (spCountInit K C) := by
  refine F.ok scCountInit (fun vs H Q E h => ?_) (fun cdv A outer s H vs Q E hr h => ?_)
  · obtain ⟨p, dx, a, st, z, l, b, rfl, _⟩ := h
    rfl
  · obtain ⟨p, dx, a, st, z, l, b, rfl, hp, hz, hl, hb, k⟩ := h
    have hr1 : Room 1 _ := hr.mono (by decide)
    refine ⟨_, PSs.nox (pss_cons (ps_expr (pe_call GN hr1 rfl gN kN bN .nil pass0 (pa_cons (pe_call GI hr1 rfl gI kI bI .nil pass0 (pa_cons (pv 1) pa_nil)) (pa_cons pe_str pa_nil))))
      (pss_cons (ps_expr (pe_call GN hr1 rfl gN kN bN .nil pass0 (pa_cons (pe_call GI hr1 rfl gI kI bI .nil pass0 (pa_cons (pv 2) pa_nil)) (pa_cons pe_str pa_nil))))
      (pss_cons (ps_expr (pe_call GN hr1 rfl gN kN bN .nil pass0 (pa_cons (pe_and (pe_call GI hr1 rfl gI kI bI .nil pass0 (pa_cons (pv 3) pa_nil)) (pe_one (pe_cmpR op_ge (pv 3) pe_int (nomark _)))) (pa_cons pe_str pa_nil))))
      (pss_cons (ps_expr (pe_base (pe_glob (v := .ref CN) rfl gB rfl) mB GB hr bB .nil pass0 (pa_cons (pv 0) (pa_cons (pe_tup (pa_cons (pv 1) (pa_cons (pv 2) (pa_cons (pv 3) pa_nil)))) (pa_cons (pv 4) (pa_cons (pv 5) pa_nil))))))
      (pss_cons (ps_fld (pv 0) (pv 1) rfl) (pss_cons (ps_fld (pv 0) (pv 2) rfl) (pss_one (ps_fld (pv 0) (pv 3) rfl)))))))), ?_⟩
    refine ⟨_, rfl, _, rfl, .inl ⟨a, rfl, _, rfl, ?_⟩⟩
    refine ⟨_, rfl, _, rfl, .inl ⟨st, rfl, _, rfl, ?_⟩⟩
    refine ⟨_, rfl, _, rfl, .inl ⟨z, rfl, _, rfl, iteT ?_⟩⟩
    refine ⟨_, rfl, _, _, rfl, rfl, .str "size", ?_, ?_⟩
    · show [V.bl (decide (0 ≤ z)), V.str "size"] ++ [] = _
      rw [decide_eq_true hz]
      rfl
    refine ⟨rfl, _, rfl, _, rfl, _, rfl, _, rfl, (by show 3 ≤ sizeLine; decide), fun t ht => ?_⟩
    have hp1 := Same.new (o := .tup [V.int a, V.int st, V.int z]) (Same.refl _) ht _ _ hp
    refine ⟨_, rfl, _, rfl, p, t, dx, [], [.int a, .int st, .int z], l, b, rfl, hp1, .inl (.inl upd_same), hl, hb, by decide, by show 3 ≤ 1000; decide, fun tm htm => ?_⟩
    have ln := nodeF_le tm l b []
    have l0 : ([] : List (Str × V)).length = 0 := rfl
    have l1 := putF_le "first" (.int a) (nodeF tm l b [])
    have l2 := putF_le "step" (.int st) (putF "first" (.int a) (nodeF tm l b []))
    refine ⟨_, rfl, _, rfl, p, C, dx, _, rfl, upd_same, T.n.cl, T.fi, by omega, ?_⟩
    refine ⟨_, rfl, _, rfl, p, C, dx, _, rfl, upd_same, T.n.cl, T.st, by omega, ?_⟩
    refine ⟨_, rfl, _, rfl, p, C, dx, _, rfl, upd_same, T.n.cl, T.si, by omega, ?_⟩
    rw [upd_upd, upd_upd, upd_upd]
    exact k _ _ (countFs_mk tm l a st z b) (Kept.upd (Kept.new (Kept.new Kept.refl ht) htm)) upd_same
end
end Sw
namespace Sw
open PySem PySem.Spec PyProof.Rows L2
/-! ### Tape -/
structure TapeFs (fs : List (Str × V)) (ln : Addr) (ag : Bool) (b : Int) : Prop where
  nu : fs.lookup ("numbers" : Str) = some (.ref ln)
  ag : fs.lookup ("again" : Str) = some (.bl ag)
  be : fs.lookup ("begin_at" : Str) = some (.int b)
  no : ∀ m : Str, m ≠ "numbers" → m ≠ "again" → m ≠ "begin_at" → m ≠ "late_by" → m ≠ "made" → fs.lookup m = none
theorem tapeFs_mk (tm ln : Addr) (l b : Int) (ag : Bool) : TapeFs (putF "again" (.bl ag) (nodeF tm l b (putF "numbers" (.ref ln) []))) ln ag b := by
  refine ⟨?_, ?_, ?_, fun m h1 h2 h3 h4 h5 => ?_⟩
  · rw [lookup_putF, if_neg (by decide +kernel), nodeF_no (by decide +kernel) (by decide +kernel) (by decide +kernel), lookup_putF, if_pos rfl]
  · rw [lookup_putF, if_pos rfl]
  · rw [lookup_putF, if_neg (by decide +kernel), nodeF_be]
  · rw [lookup_putF, if_neg h2, nodeF_no h3 h4 h5, lookup_putF, if_neg h1]
    rfl
structure TapeC (K : PySem.W.Frag) (C : Addr) : Prop where
  n : NodeC K C
  nu : NoAttr K C "numbers"
  ag : NoAttr K C "again"
def spTapeInit (K : PySem.W.Frag) (C : Addr) : Sp := fun vs H Q _ => ∃ (p dx ln0 : Addr) (ns : List Int) (ag : Bool) (l b : Int), vs = [.ref p, .ref ln0, .bl ag, .int l, .int b] ∧ H p = some (.ins C dx []) ∧ H ln0 = some (.lst (ns.map V.int)) ∧ 1 ≤ ns.length ∧ ns.length ≤ 60 ∧ (0 ≤ l ∧ l ≤ 99) ∧ (0 ≤ b ∧ b ≤ 9999) ∧
  ∀ (fs : List (Str × V)) (ln : Addr) (H' : Hp), TapeFs fs ln ag b → Kept p H H' → H' p = some (.ins C dx fs) → H ln = none → H' ln = some (.lst (ns.map V.int)) → Q .non H'
structure TI where
  nd : Addr
  ln : Addr
  ns : List Int
  ag : Bool
def tapePos (ag : Bool) (n k : Nat) : Nat := if ag = true then (if k = 0 then 0 else (k - 1) % n + 1) else min k n
def tapeDue (i : TI) (k : Nat) : Int := if i.ag = true then i.ns.getD (k % i.ns.length) 0 else i.ns.getD k 0
def tapeNode (C : Addr) (i : TI) (p : Addr) (H : Hp) : Prop := ∃ fs, InsAt H i.nd C fs ∧ TapeFs fs i.ln i.ag 0 ∧ H i.ln = some (.lst (i.ns.map V.int)) ∧ i.ln ≠ p ∧ 1 ≤ i.ns.length ∧ i.ns.length ≤ 60 ∧ ∀ n ∈ i.ns, Num n
theorem getD_num {ns : List Int} {k : Nat} (h : ∀ n ∈ ns, Num n) : Num (ns.getD k 0) := by
  rw [List.getD_eq_getElem?_getD]
  cases e : ns[k]? with
  | none => exact ⟨by decide, by decide⟩
  | some x => exact h x (List.mem_of_getElem? e)
theorem Num.log {n : Int} (h : Num n) : n.natAbs.log2 < 1920 := log2_of (b := 200) (by unfold Num at h; omega) (by decide) (by decide)
def tapeM (K : PySem.W.Frag) (C : Addr) : Mach K C where
  ι := TI
  nd := TI.nd
  node := tapeNode C
  mem := fun i k H v => ∃ q, v = .ref q ∧ SqT K H q [.int 0, .int ((tapePos i.ag i.ns.length k : Nat) : Int)]
  own := fun i p H v => ∃ o row, v = .ref o ∧ row ≠ p ∧ H o = some (.lst [.ref row, .bl i.ag]) ∧ H row = some (.lst (i.ns.map V.int))
  due := tapeDue
  ins := fun i p H ⟨fs, h, c, _⟩ => ⟨fs, h, fun m hm => by
    have : m = "takes" ∨ m = "gives" ∨ m = "fresh" ∨ m = "fire" := by simpa using hm
    rcases this with rfl | rfl | rfl | rfl
    all_goals exact c.no _ (by decide +kernel) (by decide +kernel) (by decide +kernel) (by decide +kernel) (by decide +kernel)⟩
  nodeKept := fun i p H H1 hp k ⟨fs, h, c, hl, n, r⟩ => ⟨fs, h.kept k hp, c, k _ _ n hl, n, r⟩
  ownKept := fun i p H H1 v hp k ⟨o, row, e, n, h1, h2⟩ => by
    obtain ⟨x, y, _, _, _, hp⟩ := hp
    exact ⟨o, row, e, n, k.at hp h1 (fun z => by cases z), k _ _ n h2⟩
  memKept := fun i k b H H1 v xs hb kk ⟨q, e, h⟩ => ⟨q, e, kk.tupL hb h⟩
  memKeep := fun i k H H1 v s ⟨q, e, h⟩ => ⟨q, e, Same.tup s h⟩
  small := fun i p H k ⟨fs, _, _, _, _, _, _, hn⟩ hk => by
    unfold tapeDue
    split
    · exact (getD_num hn).log
    · exact (getD_num hn).log
def spTapeWork (K : PySem.W.Frag) (C : Addr) : Sp := fun vs H Q _ => ∃ (i : TI) (p : Addr) (k : Nat) (r : V), vs = [.ref i.nd, .int ((tapePos i.ag i.ns.length k : Nat) : Int), r] ∧ tapeNode C i p H ∧
  ∀ (t l : Addr) (H' : Hp), Same H H' → SqT K H' t [.int ((tapePos i.ag i.ns.length (k + 1) : Nat) : Int), .ref l] → H' l = some (.lst [.int (tapeDue i k)]) → Q (.ref t) H'
theorem wide_tapeWork {K : PySem.W.Frag} {C : Addr} : Wide1 (spTapeWork K C) := by
  rintro vs H Q Q' E hq ⟨i, p, k, r, e, h1, kk⟩
  exact ⟨i, p, k, r, e, h1, fun t l H' a1 a2 a3 => hq _ _ (kk t l H' a1 a2 a3)⟩
theorem int_at {ns : List Int} {k : Nat} (h : k < ns.length) : atI (ns.map V.int) (k : Int) = some (V.int (ns.getD k 0)) := by
  refine atI_nat ?_
  rw [List.getElem?_map, List.getElem?_eq_getElem h, List.getD_eq_getElem?_getD, List.getElem?_eq_getElem h]
  rfl
section
variable {P : Program} {w : World} {K : PySem.W.Frag} {mg : Str → Option Value} {base : Heap} {f f1 f2 f3 f4 f5 f6 C CN : Addr} {fd fd1 fd2 fd3 fd4 fd5 fd6 : FuncData}
theorem scTapeTakes : FnScope ["self"] ["self"] (defScope sTapeTakes) := ⟨rfl, rfl, rfl, by decide +kernel, rfl, by decide +kernel, by decide +kernel⟩
theorem ok_tapeTakes (M : Mach K C) (F : FnM K "takes" "Tape.takes" sTapeTakes f fd) : FnOk P w K mg base CX0 1 f fd ["self"] (spMTakes M) := by
  refine F.ok scTapeTakes (fun vs H Q E h => ?_) (fun cdv A outer s H vs Q E hr h => ?_)
  · obtain ⟨i, p, rfl, _⟩ := h
    rfl
  · obtain ⟨i, p, rfl, hn, k⟩ := h
    refine ⟨_, PSs.nox (pss_one (ps_ret (pe_tup (pa_cons pe_int pa_nil)))), ?_⟩
    exact ⟨(by show 1 ≤ sizeLine; decide), fun t ht => k t _ (Same.new (Same.refl _) ht) upd_same⟩
theorem scTapeGives : FnScope ["self"] ["self"] (defScope sTapeGives) := ⟨rfl, rfl, rfl, by decide +kernel, rfl, by decide +kernel, by decide +kernel⟩
theorem ok_tapeGives {sp : Sp} (hsp : ∀ vs H Q E, sp vs H Q E → vs.length = 1 ∧ Q (.int 1) H) (F : FnM K "gives" "Tape.gives" sTapeGives f fd) : FnOk P w K mg base CX0 1 f fd ["self"] sp := by
  refine F.ok scTapeGives (fun vs H Q E h => (hsp vs H Q E h).1) (fun cdv A outer s H vs Q E hr h => ?_)
  exact ⟨_, PSs.nox (pss_one (ps_ret pe_int)), (hsp vs H Q E h).2⟩
theorem scTapeFresh : FnScope ["self"] ["self"] (defScope sTapeFresh) := ⟨rfl, rfl, rfl, by decide +kernel, rfl, by decide +kernel, by decide +kernel⟩
theorem ok_tapeFresh (F : FnM K "fresh" "Tape.fresh" sTapeFresh f fd) (T : TapeC K C) : FnOk P w K mg base CX0 1 f fd ["self"] (spMFresh (tapeM K C)) := by
  refine F.ok scTapeFresh (fun vs H Q E h => ?_) (fun cdv A outer s H vs Q E hr h => ?_)
  · obtain ⟨i, p, rfl, _⟩ := h
    rfl
  · obtain ⟨i, p, rfl, ⟨fs, ⟨dx, hi⟩, c, _⟩, k⟩ := h
    refine ⟨_, PSs.nox (pss_one (ps_ret (pe_tup (pa_cons (pe_fld (pv 0) rfl) (pa_cons pe_int pa_nil))))), ?_⟩
    refine ⟨_, rfl, _, C, dx, _, _, rfl, hi, T.n.cl, T.n.nB, c.be, (by show 2 ≤ sizeLine; decide), fun q hq => ?_⟩
    refine k _ _ (Same.new (Same.refl _) hq) ⟨q, rfl, .inl (.inl ?_)⟩
    have e : tapePos (TI.ag i) (TI.ns i).length 0 = 0 := by
      unfold tapePos
      split
      · rfl
      · exact Nat.zero_min _
    exact upd_same.trans (congrArg (fun z : Nat => some (HO.tup [V.int 0, V.int (z : Int)])) e.symm)
theorem scTapeWork : FnScope ["self", "kept", "rows", "end", "at"] ["self", "kept", "rows"] (defScope sTapeWork) := ⟨rfl, rfl, rfl, by decide +kernel, rfl, by decide +kernel, by decide +kernel⟩
theorem ok_tapeWork (F : FnM K "work" "Tape.work" sTapeWork f fd) (T : TapeC K C) (gLen : mg "len" = none) : FnOk P w K mg base CX0 1 f fd ["self", "kept", "rows"] (spTapeWork K C) := by
  refine F.ok scTapeWork (fun vs H Q E h => ?_) (fun cdv A outer s H vs Q E hr h => ?_)
  · obtain ⟨i, p, k, r, rfl, _⟩ := h
    rfl
  · obtain ⟨⟨nd, ln, ns, ag⟩, p, k, r, rfl, ⟨fs, ⟨dx, hi⟩, c, hl, _, n1, n60, _⟩, kk⟩ := h
    dsimp only at hi c hl n1 n60 kk ⊢
    refine ⟨_, PSs.nox (pss_cons (ps_set (i := 3) scTapeWork.nd rfl (Or.inl rfl) (pe_callB call_len_seq (by rfl) gLen PySem.boot_len (pa_cons (pe_fld (pv 0) rfl) pa_nil)))
      (pss_cons (ps_if (PW.pt (pw_and (pt_cmpR op_eq (pv 1) (pv 3) (nomark _)) (pw_and1 (pt_not (pt_val (pe_fld (pv 0) rfl)))))) (pss_one (ps_ret (pe_tup (pa_cons (pv 1) (pa_cons (pe_lst (pa_cons pe_int pa_nil)) pa_nil))))) pss_nil)
      (pss_cons (ps_set (i := 4) scTapeWork.nd rfl (Or.inl rfl) (pe_op op_mod (pv 1) (pv 3)))
      (pss_one (ps_ret (pe_tup (pa_cons (pe_op op_add (pv 4) pe_int) (pa_cons (pe_lst (pa_cons (pe_ix ix_list (pe_fld (pv 0) rfl) (pv 4) (fun _ _ => rfl)) pa_nil)) pa_nil)))))))), ?_⟩
    refine ⟨_, rfl, nd, C, dx, _, _, rfl, hi, T.n.cl, T.nu, c.nu, ln, _, rfl, .inl (SqL.of hl), ?_⟩
    rw [List.length_map]
    -- the number at its place
    have rest : ∀ j : Nat, j < ns.length → tapePos ag ns.length k % ns.length = j → tapePos ag ns.length (k + 1) = j + 1 → tapeDue ⟨nd, ln, ns, ag⟩ k = ns.getD j 0 →
        tSeq (tAsg (tOp (rI (fun _ j => 0 < j) fun i j => .int (i % j)) (tVar 1) (tVar 3)) (gName 4)) (tRet (tTup (tCons (tOp (rI0 fun i j => .int (i + j)) (tVar 4) (tC (.int 1))) (tCons (tLst (tCons (tOp (rIxL K) (tFld K (tVar 0) "numbers") (tVar 4)) tNil)) tNil))))
          { nx := fun _ H' => Q .non H', rt := Q } [some (.ref nd), some (.int ((tapePos ag ns.length k : Nat) : Int)), some r, some (.int (ns.length : Int)), none] H := by
      intro j hj e1 e2 e3
      refine ⟨_, rfl, _, rfl, _, _, rfl, rfl, by omega, ?_⟩
      refine ⟨_, rfl, _, _, rfl, rfl, ?_⟩
      have ej : ((tapePos ag ns.length k : Nat) : Int) % (ns.length : Int) = (j : Int) := by
        rw [← Int.natCast_emod, e1]
      refine ⟨_, rfl, nd, C, dx, _, _, rfl, hi, T.n.cl, T.nu, c.nu, _, rfl, ln, _, _, V.int (ns.getD j 0), rfl, rfl, SqL.of hl, ?_, ?_⟩
      · rw [ej]
        exact int_at hj
      · refine ⟨(by show 1 ≤ sizeLine; decide), fun l hl' => ⟨(by show 2 ≤ sizeLine; decide), fun t ht => ?_⟩⟩
        refine kk t l _ (Same.new (Same.new (Same.refl _) hl') ht) (.inl (.inl ?_)) ?_
        · rw [e2]
          refine upd_same.trans ?_
          rw [ej]
          rfl
        · rw [e3]
          exact Same.new (Same.refl _) ht _ _ upd_same
    refine ⟨_, rfl, _, rfl, rfl, _, rfl, ?_⟩
    cases ag with
    | true =>
      have pos : tapePos true ns.length k % ns.length = k % ns.length := by
        unfold tapePos
        rw [if_pos rfl]
        cases k with
        | zero => rw [if_pos rfl]
        | succ j =>
          rw [if_neg (Nat.succ_ne_zero j), Nat.succ_sub_one, Nat.mod_add_mod]
      have nxt : tapePos true ns.length (k + 1) = k % ns.length + 1 := by
        unfold tapePos
        rw [if_pos rfl, if_neg (Nat.succ_ne_zero k), Nat.add_sub_cancel]
      have fin := rest (k % ns.length) (Nat.mod_lt _ (by omega)) pos nxt (by unfold tapeDue; rw [if_pos rfl])
      refine ite2 (fun z => ?_) (fun z => ?_)
      · refine ⟨_, rfl, nd, C, dx, _, _, rfl, hi, T.n.cl, T.ag, c.ag, _, rfl, ?_⟩
        exact iteF fin
      · exact iteF fin
    | false =>
      have pos0 : tapePos false ns.length k = min k ns.length := by
        unfold tapePos
        rw [if_neg Bool.false_ne_true]
      have pos1 : tapePos false ns.length (k + 1) = min (k + 1) ns.length := by
        unfold tapePos
        rw [if_neg Bool.false_ne_true]
      have due : tapeDue ⟨nd, ln, ns, false⟩ k = ns.getD k 0 := by
        unfold tapeDue
        rw [if_neg Bool.false_ne_true]
      by_cases e : ns.length ≤ k
      · refine ite2 (fun z => ?_) (fun z => absurd (decide_eq_true (by rw [pos0]; congr 2; omega)) z)
        refine ⟨_, rfl, nd, C, dx, _, _, rfl, hi, T.n.cl, T.ag, c.ag, _, rfl, ?_⟩
        refine iteT ?_
        refine ⟨_, rfl, (by show 1 ≤ sizeLine; decide), fun l hl' => ⟨(by show 2 ≤ sizeLine; decide), fun t ht => ?_⟩⟩
        refine kk t l _ (Same.new (Same.new (Same.refl _) hl') ht) (.inl (.inl ?_)) ?_
        · have e2 : tapePos false ns.length (k + 1) = tapePos false ns.length k := by
            rw [pos0, pos1]
            omega
          rw [e2]
          exact upd_same
        · have e3 : tapeDue ⟨nd, ln, ns, false⟩ k = 0 := by
            rw [due, List.getD_eq_getElem?_getD, List.getElem?_eq_none e]
            rfl
          rw [e3]
          exact Same.new (Same.refl _) ht _ _ upd_same
      · have fin := rest k (by omega) (by rw [pos0, Nat.min_eq_left (by omega), Nat.mod_eq_of_lt (by omega)]) (by rw [pos1]; omega) due
        refine ite2 (fun z => ?_) (fun _ => iteF fin)
        have z1 := V.int.inj (of_decide_eq_true z)
        rw [pos0] at z1
        omega
end
end Sw
namespace Sw
open PySem PySem.Spec PyProof.Rows L2
abbrev sNumbers : Stmt := top 26
section
variable {P : Program} {w : World} {K : PySem.W.Frag} {mg : Str → Option Value} {base : Heap} {f f1 f2 f3 f4 f5 f6 C CN : Addr} {fd fd1 fd2 fd3 fd4 fd5 fd6 : FuncData}
theorem scTapeFire : FnScope ["self", "memory", "rows"] ["self", "memory", "rows"] (defScope sTapeFire) := ⟨rfl, rfl, rfl, by decide +kernel, rfl, by decide +kernel, by decide +kernel⟩
theorem ok_tapeFire (F : FnM K "fire" "Tape.fire" sTapeFire f fd) (GF : FnOk P w K mg base CX0 2 f1 fd1 ["node", "memory", "rows"] (spFiring K C (spTapeWork K C))) (gF : mg "run_firing" = some (.ref f1)) (kF : PySem.W.keepIn K (.ref f1) = true) (bF : Binds K fd1 ["node", "memory", "rows"] []) :
    FnOk P w K mg base CX0 3 f fd ["self", "memory", "rows"] (spMFire (tapeM K C)) := by
  refine F.ok scTapeFire (fun vs H Q E h => ?_) (fun cdv A outer s H vs Q E hr h => ?_)
  · obtain ⟨i, p, k, v, r, rfl, _⟩ := h
    rfl
  · obtain ⟨i, p, k, v, r, rfl, hn, ⟨q, rfl, hq⟩, hk, kk⟩ := h
    obtain ⟨fs, hi, c, _⟩ := id hn
    refine ⟨_, PSs.nox (pss_one (ps_ret (pe_call GF hr rfl gF kF bF .nil pass0 (pa_cons (pv 0) (pa_cons (pv 1) (pa_cons (pv 2) pa_nil)))))), ?_⟩
    refine ⟨_, rfl, _, rfl, _, rfl, TI.nd i, q, fs, 0, _, r, rfl, hi, c.no _ (by decide +kernel) (by decide +kernel) (by decide +kernel) (by decide +kernel) (by decide +kernel), c.no _ (by decide +kernel) (by decide +kernel) (by decide +kernel) (by decide +kernel) (by decide +kernel), hq, .inr ⟨by decide, ?_⟩⟩
    refine ⟨i, p, k, r, rfl, hn, fun t l H1 s1 ht hl => ?_⟩
    refine ⟨t, _, _, rfl, s1, ht, fun t2 t3 H2 s2 _ h2 h3 => ?_⟩
    exact kk t2 l (.ref t3) H2 (s1.trans s2) h2 ⟨t3, rfl, .inl (.inl h3)⟩ (s2 _ _ hl)
theorem scTapeInit : FnScope ["self", "numbers", "again", "late", "begin"] ["self", "numbers", "again", "late", "begin"] (defScope sTapeInit) := ⟨rfl, rfl, rfl, by decide +kernel, rfl, by decide +kernel, by decide +kernel⟩
theorem ok_tapeInit {dvs : List V} {kws : List (Str × V)} (F : FunD K "__init__" "Tape.__init__" (defArgs sTapeInit) (defBody sTapeInit) (defScope sTapeInit) dvs kws f fd) (GN : FnOk P w K mg base CX0 1 f1 fd1 ["holds", "field"] spNeed) (gN : mg "need" = some (.ref f1)) (kN : PySem.W.keepIn K (.ref f1) = true) (bN : Binds K fd1 ["holds", "field"] [])
    (GL : FnOk P w K mg base CX0 3 f2 fd2 ["thing", "least", "most"] (spListOf K)) (gL : mg "is_list_of_wholes" = some (.ref f2)) (kL : PySem.W.keepIn K (.ref f2) = true) (bL : Binds K fd2 ["thing", "least", "most"] [])
    (GT : FnOk P w K mg base CX0 1 f4 fd4 ["thing"] spTruth) (gT : mg "is_truth" = some (.ref f4)) (kT : PySem.W.keepIn K (.ref f4) = true) (bT : Binds K fd4 ["thing"] [])
    (GB : FnOk P w K mg base CX0 3 f3 fd3 ["self", "arguments", "late", "begin"] (spNodeInit K C)) (gB : mg "Node" = some (.ref CN)) (mB : BaseM K CN "__init__" f3) (bB : Binds K fd3 ["self", "arguments", "late", "begin"] [])
    (gMost : ∃ t, mg "MOST_TAPED" = some (.int 60 t)) (gList : mg "list" = none) (T : TapeC K C) : FnOk P w K mg base CX0 4 f fd ["self", "numbers", "again", "late", "begin"] (spTapeInit K C) := by
  obtain ⟨tM, gM⟩ := gMost
  refine F.ok scTapeInit (fun vs H Q E h => ?_) (fun cdv A outer s H vs Q E hr h => ?_)
  · obtain ⟨p, dx, ln0, ns, ag, l, b, rfl, _⟩ := h
    rfl
  · obtain ⟨p, dx, ln0, ns, ag, l, b, rfl, hp, hl0, n1, n60, hl, hb, k⟩ := h
    have hr1 : Room 1 _ := hr.mono (by decide)
    refine ⟨_, PSs.nox (pss_cons (ps_expr (pe_call GN hr1 rfl gN kN bN .nil pass0 (pa_cons (pe_call GL hr rfl gL kL bL .nil pass0 (pa_cons (pv 1) (pa_cons pe_int (pa_cons (pe_glob (v := .int 60) rfl gM ⟨_, rfl⟩) pa_nil)))) (pa_cons pe_str pa_nil))))
      (pss_cons (ps_expr (pe_call GN hr1 rfl gN kN bN .nil pass0 (pa_cons (pe_call GT hr1 rfl gT kT bT .nil pass0 (pa_cons (pv 2) pa_nil)) (pa_cons pe_str pa_nil))))
      (pss_cons (ps_fld (pv 0) (pe_callTy call_list_of (by rfl) gList PyProof.Rows.boot_list (pa_cons (pv 1) pa_nil)) rfl)
      (pss_cons (ps_expr (pe_base (pe_glob (v := .ref CN) rfl gB rfl) mB GB hr bB .nil pass0 (pa_cons (pv 0) (pa_cons (pe_tup (pa_cons (pe_fld (pv 0) rfl) (pa_cons (pv 2) pa_nil))) (pa_cons (pv 3) (pa_cons (pv 4) pa_nil))))))
      (pss_one (ps_fld (pv 0) (pv 2) rfl)))))), ?_⟩
    refine ⟨_, rfl, ln0, ns, 1, 60, rfl, hl0, by omega, by omega, by omega, fun H1 s1 => ⟨_, rfl, ?_⟩⟩
    refine ⟨_, rfl, ag, rfl, _, rfl, ?_⟩
    refine ⟨_, rfl, ln0, _, rfl, .inl (SqL.of (s1 _ _ hl0)), fun ln hln => ?_⟩
    have s2 := Same.new (o := .lst (ns.map V.int)) s1 hln
    have hp2 := s2 _ _ hp
    have nln : H ln = none := s1.free hln
    have npl : ln ≠ p := (ne_of_none hp nln).symm
    have hln2 : (upd H1 ln (.lst (ns.map V.int))) ln = some (.lst (ns.map V.int)) := upd_same
    generalize upd H1 ln (.lst (ns.map V.int)) = H2 at s2 hp2 hln2
    refine ⟨_, rfl, p, C, dx, _, rfl, hp2, T.n.cl, T.nu, by decide, ?_⟩
    have hp3 : (upd H2 p (.ins C dx (putF "numbers" (.ref ln) []))) p = some (.ins C dx (putF "numbers" (.ref ln) [])) := upd_same
    refine ⟨rfl, _, rfl, _, rfl, p, C, dx, _, _, rfl, hp3, T.n.cl, T.nu, rfl, _, rfl, (by show 2 ≤ sizeLine; decide), fun t ht => ?_⟩
    have hp4 := Same.new (o := .tup [V.ref ln, V.bl ag]) (Same.refl _) ht _ _ hp3
    refine ⟨_, rfl, _, rfl, p, t, dx, putF "numbers" (.ref ln) [], [.ref ln, .bl ag], l, b, rfl, hp4, .inl (.inl upd_same), hl, hb, by show 1 < 900; decide, by show 2 ≤ 1000; decide, fun tm htm => ?_⟩
    have ln1 := nodeF_le tm l b (putF "numbers" (.ref ln) [])
    have ln2 := putF_le "numbers" (.ref ln) []
    have l0 : ([] : List (Str × V)).length = 0 := rfl
    refine ⟨_, rfl, _, rfl, p, C, dx, _, rfl, upd_same, T.n.cl, T.ag, by omega, ?_⟩
    rw [upd_upd]
    have k3 : Kept p H (upd H2 p (.ins C dx (putF "numbers" (.ref ln) []))) := Kept.upd (Kept.same s2)
    have k5 : Kept p H (upd (upd (upd H2 p (.ins C dx (putF "numbers" (.ref ln) []))) t (.tup [V.ref ln, V.bl ag])) tm (.tup ([V.ref ln, V.bl ag] ++ [V.int l, V.int b]))) := (k3.new ht).new htm
    refine k _ ln _ (tapeFs_mk tm ln l b ag) (Kept.upd k5) upd_same nln ?_
    have h5 : (upd (upd (upd H2 p (.ins C dx (putF "numbers" (.ref ln) []))) t (.tup [V.ref ln, V.bl ag])) tm (.tup ([V.ref ln, V.bl ag] ++ [V.int l, V.int b]))) ln = some (.lst (ns.map V.int)) :=
      Same.new (Same.new (Same.refl _) ht) htm _ _ (by rw [upd_ne npl]; exact hln2)
    rw [upd_ne npl]
    exact h5
theorem scLDue : FnScope ["_law_own", "_law_k", "_law_number_here", "_law_turn"] ["_law_own", "_law_k"] (defScope sLDue) := ⟨rfl, rfl, rfl, by decide +kernel, rfl, by decide +kernel, by decide +kernel⟩
theorem ok_dueTape (F : FnP K "_law_due" sLDue f fd) (gLen : mg "len" = none) (gRange : mg "range" = none) : FnOk P w K mg base CX0 1 f fd ["_law_own", "_law_k"] (spMDue (tapeM K C)) := by
  refine F.ok scLDue (fun vs H Q E h => ?_) (fun cdv A outer s H vs Q E hr h => ?_)
  · obtain ⟨i, p, k, v, rfl, _⟩ := h
    rfl
  · obtain ⟨⟨nd0, ln, ns, ag⟩, p, k, v, rfl, ⟨fs, _, _, _, _, n1, n60, hnum⟩, ⟨o, row, rfl, nr, ho, hrow⟩, hk, kk⟩ := h
    dsimp only at n1 n60 hnum ho hrow kk
    have nd := scLDue.nd
    refine ⟨_, PSs.nox (pss_cons (ps_if (PW.pt (pw_and (pt_cmpR op_eq (pe_callB call_len_seq (by rfl) gLen PySem.boot_len (pa_cons (pv 0) pa_nil)) pe_int (nomark _)) (pw_and1 (pt_val (pe_ix ix_list (pv 0) pe_int (fun _ _ => rfl))))))
        (pss_one (ps_ret (pe_ix ix_list (pe_ix ix_list (pv 0) pe_int (fun _ _ => rfl)) (pe_op op_sub (pv 1) (pe_op op_mul (pe_op op_fdiv (pv 1) (pe_callB call_len_seq (by rfl) gLen PySem.boot_len (pa_cons (pe_ix ix_list (pv 0) pe_int (fun _ _ => rfl)) pa_nil))) (pe_callB call_len_seq (by rfl) gLen PySem.boot_len (pa_cons (pe_ix ix_list (pv 0) pe_int (fun _ _ => rfl)) pa_nil)))) (fun _ _ => rfl)))) pss_nil)
      (pss_cons (ps_if (pt_cmpR op_eq (pe_callB call_len_seq (by rfl) gLen PySem.boot_len (pa_cons (pv 0) pa_nil)) pe_int (nomark _))
        (pss_one (ps_ret (pe_ix ix_list (pe_op op_cat (pe_ix ix_list (pv 0) pe_int (fun _ _ => rfl)) (pe_op op_rep (pe_lst (pa_cons pe_int pa_nil)) (pe_op op_add (pv 1) pe_int))) (pv 1) (fun _ _ => rfl)))) pss_nil)
      pss_never)), ?_⟩
    refine ⟨_, rfl, o, _, rfl, .inl (SqL.of ho), rfl, _, rfl, ?_⟩
    refine ite2 (fun _ => ?_) (fun z => absurd (decide_eq_true rfl) z)
    refine ⟨_, rfl, o, _, _, _, rfl, rfl, SqL.of ho, atI_nat (j := 1) rfl, _, rfl, ?_⟩
    cases ag with
    | true =>
      refine iteT ?_
      refine ⟨_, rfl, o, _, _, _, rfl, rfl, SqL.of ho, atI_nat (j := 0) rfl, _, rfl, _, rfl, _, rfl, o, _, _, _, rfl, rfl, SqL.of ho, atI_nat (j := 0) rfl, row, _, rfl, .inl (SqL.of hrow), ?_⟩
      rw [List.length_map]
      refine ⟨_, _, rfl, rfl, ⟨by omega, by omega⟩, ?_⟩
      refine ⟨_, rfl, o, _, _, _, rfl, rfl, SqL.of ho, atI_nat (j := 0) rfl, row, _, rfl, .inl (SqL.of hrow), ?_⟩
      rw [List.length_map]
      refine ⟨_, _, rfl, rfl, .inr ⟨by omega, by omega⟩, _, _, rfl, rfl, ?_⟩
      have em : (k : Int) - (k : Int) / (ns.length : Int) * (ns.length : Int) = ((k % ns.length : Nat) : Int) := by
        have e := Int.emod_add_mul_ediv (k : Int) (ns.length : Int)
        rw [Int.natCast_emod, Int.mul_comm ((k : Int) / (ns.length : Int))]
        omega
      have lt : k % ns.length < ns.length := Nat.mod_lt _ (by omega)
      refine ⟨row, _, _, V.int (ns.getD (k % ns.length) 0), rfl, rfl, SqL.of hrow, ?_, ?_⟩
      · rw [em]
        exact int_at lt
      · have e := kk H (Same.refl _)
        exact e
    | false =>
      refine iteF ?_
      refine ⟨_, rfl, o, _, rfl, .inl (SqL.of ho), rfl, _, rfl, ?_⟩
      refine ite2 (fun _ => ?_) (fun z => absurd (decide_eq_true rfl) z)
      refine ⟨_, rfl, o, _, _, _, rfl, rfl, SqL.of ho, atI_nat (j := 0) rfl, (by show 1 ≤ sizeLine; decide), fun l0 hl0 => ?_⟩
      have s1 := Same.new (o := .lst [V.int 0]) (Same.refl H) hl0
      refine ⟨_, rfl, _, _, rfl, rfl, l0, _, _, rfl, rfl, upd_same, by omega, by omega, ?_, fun l1 hl1 => ?_⟩
      · show 1 * ((k : Int) + 1).toNat ≤ sizeLine
        exact Nat.le_trans (show 1 * ((k : Int) + 1).toNat ≤ 201 by omega) (by decide)
      have er : (List.replicate ((k : Int) + 1).toNat [V.int 0]).flatten = (List.replicate (k + 1) (0 : Int)).map V.int := by
        rw [show ((k : Int) + 1).toNat = k + 1 by omega, List.map_replicate]
        exact List.flatten_replicate_singleton
      rw [er]
      have s2 := Same.new (o := .lst ((List.replicate (k + 1) (0 : Int)).map V.int)) s1 hl1
      refine ⟨row, l1, _, _, rfl, rfl, s2 _ _ hrow, upd_same, ?_, fun l2 hl2 => ?_⟩
      · rw [List.length_map, List.length_map, List.length_replicate]
        exact Nat.le_trans (show ns.length + (k + 1) ≤ 300 by omega) (by decide)
      have s3 := Same.new (o := .lst (ns.map V.int ++ (List.replicate (k + 1) (0 : Int)).map V.int)) s2 hl2
      refine ⟨_, rfl, l2, _, _, V.int ((ns ++ List.replicate (k + 1) 0).getD k 0), rfl, rfl, SqL.of upd_same, ?_, ?_⟩
      · rw [← List.map_append]
        refine int_at ?_
        rw [List.length_append, List.length_replicate]
        omega
      · have ed : (ns ++ List.replicate (k + 1) (0 : Int)).getD k 0 = ns.getD k 0 := by
          rw [List.getD_eq_getElem?_getD, List.getD_eq_getElem?_getD]
          by_cases lt : k < ns.length
          · rw [List.getElem?_append_left lt]
          · rw [List.getElem?_append_right (by omega), List.getElem?_eq_none (show ns.length ≤ k by omega), List.getElem?_replicate]
            split <;> rfl
        rw [ed]
        exact kk _ s3
theorem ok_dueCount (F : FnP K "_law_due" sLDue f fd) (gLen : mg "len" = none) (gRange : mg "range" = none) : FnOk P w K mg base CX0 1 f fd ["_law_own", "_law_k"] (spMDue (countM K C)) := by
  refine F.ok scLDue (fun vs H Q E h => ?_) (fun cdv A outer s H vs Q E hr h => ?_)
  · obtain ⟨i, p, k, v, rfl, _⟩ := h
    rfl
  · obtain ⟨⟨nd0, a, st, z⟩, p, k, v, rfl, ⟨fs, _, _, na, ns, z0, z1⟩, ⟨o, rfl, ho⟩, hk, kk⟩ := h
    dsimp only at na ns z0 z1 ho kk
    have nd := scLDue.nd
    refine ⟨_, PSs.nox (pss_cons (ps_if (PW.pt (pw_and (pt_cmpR op_eq (pe_callB call_len_seq (by rfl) gLen PySem.boot_len (pa_cons (pv 0) pa_nil)) pe_int (nomark _)) (pw_and1 (pt_val (pe_ix ix_list (pv 0) pe_int (fun _ _ => rfl))))))
        pss_never pss_nil)
      (pss_cons (ps_if (pt_cmpR op_eq (pe_callB call_len_seq (by rfl) gLen PySem.boot_len (pa_cons (pv 0) pa_nil)) pe_int (nomark _)) pss_never pss_nil)
      (pss_cons (ps_set (i := 2) nd rfl (Or.inl rfl) (pe_ix ix_list (pv 0) pe_int (fun _ _ => rfl)))
      (pss_cons (ps_for PassesOwn.never rfl (pi_range1 rfl gRange (pa_cons (pv 1) pa_nil)) (pg_name (i := 3) nd rfl (Or.inl rfl)) (pss_one (ps_set (i := 2) nd rfl (Or.inl rfl) (pe_op op_add (pv 2) (pe_ix ix_list (pv 0) pe_int (fun _ _ => rfl))))))
      (pss_cons (ps_if (pt_cmpR op_gt (pe_ix ix_list (pv 0) pe_int (fun _ _ => rfl)) pe_int (nomark _))
          (pss_one (ps_set (i := 2) nd rfl (Or.inl rfl) (pe_op op_sub (pv 2) (pe_op op_mulW (pe_op op_fdivW (pv 2) (pe_ix ix_list (pv 0) pe_int (fun _ _ => rfl))) (pe_ix ix_list (pv 0) pe_int (fun _ _ => rfl)))))) pss_nil)
      (pss_one (ps_ret (pv 2)))))))), ?_⟩
    refine ⟨_, rfl, o, _, rfl, .inl (SqL.of ho), rfl, _, rfl, ?_⟩
    refine ite2 (fun e => absurd (V.int.inj (of_decide_eq_true e)) (by show ¬ ((3 : Nat) : Int) = 2; decide)) (fun _ => iteF ?_)
    refine ⟨_, rfl, o, _, rfl, .inl (SqL.of ho), rfl, _, rfl, ?_⟩
    refine ite2 (fun e => absurd (V.int.inj (of_decide_eq_true e)) (by show ¬ ((3 : Nat) : Int) = 2; decide)) (fun _ => ?_)
    refine ⟨_, rfl, o, _, _, _, rfl, rfl, SqL.of ho, atI_nat (j := 0) rfl, ?_⟩
    refine ⟨_, rfl, _, rfl, by omega, by omega, for_range (n := k) (fun j σ H' => ∃ (v : Option V) (x : Int), σ = [some (.ref o), some (.int (k : Int)), some (.int x), v] ∧ x = countAt ⟨nd0, a, st, z⟩ j ∧ H' = H) ⟨none, a, rfl, ?_, rfl⟩ ?_ ?_⟩
    · unfold countAt
      rw [Int.natCast_zero, Int.zero_mul, Int.add_zero]
    · rintro j σ H' hj ⟨v, x, rfl, ex, rfl⟩
      refine ⟨_, rfl, _, rfl, o, _, _, _, rfl, rfl, SqL.of ho, atI_nat (j := 1) rfl, _, _, rfl, rfl, _, x + st, rfl, ?_, rfl⟩
      rw [ex]
      exact count_next ⟨nd0, a, st, z⟩ j
    · rintro σ H' ⟨v, x, rfl, ex, rfl⟩
      refine ⟨_, rfl, o, _, _, _, rfl, rfl, SqL.of ho, atI_nat (j := 2) rfl, _, _, rfl, rfl, _, rfl, ?_⟩
      have big := count_big (i := ⟨nd0, a, st, z⟩) (k := k) na ns hk
      refine ite2 (fun e => ?_) (fun e => ?_)
      · have hz : 0 < z := of_decide_eq_true e
        have zb : z.natAbs < 2 ^ 200 := by omega
        have qb : (x / z).natAbs < 2 ^ 200 := by
          rw [← ex] at big
          refine Nat.lt_of_le_of_lt ?_ big
          exact Int.natAbs_ediv_le_natAbs x z
        refine ⟨_, rfl, _, rfl, _, rfl, o, _, _, _, rfl, rfl, SqL.of ho, atI_nat (j := 2) rfl, _, _, rfl, rfl, wide_div (b := 200) hz zb (by decide) (by decide), _, rfl, o, _, _, _, rfl, rfl, SqL.of ho, atI_nat (j := 2) rfl, _, _, rfl, rfl, wide_mul (a := 200) (b := 200) qb zb (by decide) (by decide) (by decide), _, _, rfl, rfl, ?_⟩
        refine ⟨_, rfl, ?_⟩
        have em : x - x / z * z = countDue ⟨nd0, a, st, z⟩ k := by
          unfold countDue
          rw [if_pos hz, ← ex]
          show x - x / z * z = x % z
          have e := Int.emod_add_mul_ediv x z
          rw [Int.mul_comm (x / z)]
          omega
        show Q (V.int (x - x / z * z)) _
        rw [em]
        exact kk _ (Same.refl _)
      · have hz : ¬ 0 < z := fun h => e (decide_eq_true h)
        refine ⟨_, rfl, ?_⟩
        have em : x = countDue ⟨nd0, a, st, z⟩ k := by
          unfold countDue
          rw [if_neg hz, ← ex]
        show Q (V.int x) _
        rw [em]
        exact kk _ (Same.refl _)
end
end Sw
namespace Sw
open PySem PySem.Spec PyProof.Rows L2
abbrev sCounting : Stmt := top 27
abbrev sTaping : Stmt := top 28
def spNumbers : Sp := fun vs H Q _ => ∃ (p : Addr) (m : Int), vs = [.ref p, .int m] ∧ PotAt H p ∧ 0 < m ∧ m ≤ 100 ∧ ∀ (l : Addr) (ns : List Int) (H' : Hp), Kept p H H' → PotAt H' p → H l = none → H' l = some (.lst (ns.map V.int)) → 1 ≤ ns.length → (ns.length : Int) ≤ m → (∀ n ∈ ns, Num n) → Q (.ref l) H'
theorem made_same {C x dx : Addr} {H H' : Hp} (nx : H x = none) (nd : H dx = none) (ne : dx ≠ x) (k : Kept x (upd (upd H dx (.own x)) x (.ins C dx [])) H') : Same H H' :=
  Same.kept (Same.new (Same.new (Same.refl H) nd) (by rw [upd_ne ne.symm]; exact nx)) nx k
/-- a node and what is kept of it, as the law has them -/
def Rt (K : PySem.W.Frag) (CC CT : Addr) (p : Addr) (H : Hp) (n o : V) : Prop := (∃ i : (countM K CC).ι, n = .ref ((countM K CC).nd i) ∧ (countM K CC).node i p H ∧ (countM K CC).own i p H o) ∨ (∃ i : (tapeM K CT).ι, n = .ref ((tapeM K CT).nd i) ∧ (tapeM K CT).node i p H ∧ (tapeM K CT).own i p H o)
def spMakes (K : PySem.W.Frag) (CC CT : Addr) : Sp := fun vs H Q _ => ∃ p : Addr, vs = [.ref p] ∧ PotAt H p ∧ ∀ (t : Addr) (n o : V) (H' : Hp), Kept p H H' → PotAt H' p → SqT K H' t [n, o] → Rt K CC CT p H' n o → Q (.ref t) H'
section
variable {P : Program} {w : World} {K : PySem.W.Frag} {mg : Str → Option Value} {base : Heap} {f f1 f2 f3 f4 f5 f6 C CC CT CN : Addr} {fd fd1 fd2 fd3 fd4 fd5 fd6 : FuncData}
theorem scNumbers : FnScope ["_law_pot_here", "_law_most", "_law_k"] ["_law_pot_here", "_law_most"] (defScope sNumbers) := ⟨rfl, rfl, rfl, by decide +kernel, rfl, by decide +kernel, by decide +kernel⟩
theorem ok_numbers (F : FnP K "_law_numbers" sNumbers f fd) (GW : FnOk P w K mg base CX0 1 f1 fd1 ["_law_pot_here", "_law_many"] spDraw) (gW : mg "_law_draw" = some (.ref f1)) (kW : PySem.W.keepIn K (.ref f1) = true) (bW : Binds K fd1 ["_law_pot_here", "_law_many"] [])
    (GU : FnOk P w K mg base CX0 2 f2 fd2 ["_law_pot_here"] spNumber) (gU : mg "_law_number" = some (.ref f2)) (kU : PySem.W.keepIn K (.ref f2) = true) (bU : Binds K fd2 ["_law_pot_here"] []) (gRange : mg "range" = none) : FnOk P w K mg base CX0 3 f fd ["_law_pot_here", "_law_most"] spNumbers := by
  refine F.ok scNumbers (fun vs H Q E h => ?_) (fun cdv A outer s H vs Q E hr h => ?_)
  · obtain ⟨p, m, rfl, _⟩ := h
    rfl
  · obtain ⟨p, m, rfl, hp, m0, m1, k⟩ := h
    have hr1 : Room 1 _ := hr.mono (by decide)
    refine ⟨_, PSs.nox (pss_one (ps_ret (pe_lc (own := [("_law_k", 2)]) (g := gName 2) (tt := tYes) rfl scNumbers.nd (pi_range1 rfl gRange (pa_cons (pe_op op_add pe_int (pe_call GW hr1 rfl gW kW bW .nil pass0 (pa_cons (pv 0) (pa_cons (pv 1) pa_nil)))) pa_nil))
      (blkOk_by (N := ["_law_pot_here", "_law_most", "_law_k"]) (sc := defScope sNumbers) (by decide +kernel)) (fun _ _ _ _ _ => pg_name (i := 2) scNumbers.nd rfl (Or.inl rfl)) (fun _ _ _ _ _ => pts_nil) (fun _ _ _ _ _ => pe_call GU hr rfl gU kU bU .nil pass0 (pa_cons (pv 0) pa_nil))))), ?_⟩
    refine ⟨_, rfl, _, rfl, p, m, rfl, hp, m0, by omega, fun d H1 d0 d1 k1 hp1 => ?_⟩
    refine ⟨_, _, rfl, rfl, _, rfl, by omega, by omega, fun D hD => ?_⟩
    have nD : D ≠ p := fun z => by
      obtain ⟨_, _, _, _, _, hx⟩ := hp1
      rw [z, hx] at hD
      cases hD
    have nH : H D = none := by
      cases e : H D with
      | none => rfl
      | some o =>
        rw [k1 D o nD e] at hD
        cases hD
    refine lc_range (fun i H' => ∃ ns : List Int, ns.length = i ∧ H' D = some (.lst (ns.map V.int)) ∧ Kept p H H' ∧ PotAt H' p ∧ ∀ n ∈ ns, Num n) ⟨[], rfl, upd_same, k1.new hD, hp1.keep (Same.new (Same.refl _) hD), fun _ h => (List.not_mem_nil h).elim⟩ (fun i H' hi e => ?_) (fun H' e => ?_)
    · obtain ⟨ns, en, hd, kk, hpp, hn⟩ := e
      refine ⟨rfl, ?_⟩
      unfold tYes
      refine iteT ?_
      refine ⟨_, rfl, p, rfl, hpp, fun x H2 x0 x1 k2 hp2 => ?_⟩
      have hd2 := k2 _ _ nD hd
      refine ⟨_, hd2, ?_, ns ++ [x], ?_, ?_, (kk.trans k2).past nH, ?_, fun n hm => ?_⟩
      · rw [List.length_map, en]
        exact Nat.lt_of_lt_of_le (show i < 200 by omega) (by decide)
      · rw [List.length_append, en]
        rfl
      · rw [List.map_append]
        exact upd_same
      · obtain ⟨a1, a2, a3, a4, a5, a6⟩ := hp2
        exact ⟨a1, a2, a3, a4, a5, by rw [upd_ne nD.symm]; exact a6⟩
      · rcases List.mem_append.mp hm with h | h
        · exact hn n h
        · rcases List.mem_cons.mp h with rfl | h
          · exact ⟨x0, x1⟩
          · cases h
    · obtain ⟨ns, en, hd, kk, hpp, hn⟩ := e
      exact k D ns H' kk hpp nH hd (by omega) (by omega) hn
theorem scCounting : FnScope ["_law_pot_here", "_law_own", "_law_told"] ["_law_pot_here"] (defScope sCounting) := ⟨rfl, rfl, rfl, by decide +kernel, rfl, by decide +kernel, by decide +kernel⟩
theorem ok_counting {ds0 ds1 ds3 : List Value} {gK : List Value → List Value → List Value} (F : FnP K "_law_counting" sCounting f fd) (M : Mk K CC f3) (GI : FnOk P w K mg base CX0 4 f3 fd3 ["self", "first", "step", "size", "late", "begin"] (spCountInit K CC)) (gC : mg "Count" = some (.ref CC))
    (b0 : Binds K fd3 ["self", "first", "step", "size", "late", "begin"] ds0) (v0 : Vals [.int 0, .int 1, .int 0, .int 0, .int 0] ds0) (b1 : Binds K fd3 ["self", "first", "step", "size", "late", "begin"] ds1) (v1 : Vals [.int 1, .int 0, .int 0, .int 0] ds1)
    (b3 : Binds K fd3 ["self", "first", "step", "size", "late", "begin"] ds3) (v3 : Vals [.int 0, .int 0] ds3) (kb : KBn K fd3 ["self", "first", "step", "size", "late", "begin"] 1 ["size", "step"] gK (fun vs zs => vs ++ ([.int 0] ++ (zs.drop 1 ++ (zs.take 1 ++ [.int 0, .int 0])))))
    (GW : FnOk P w K mg base CX0 1 f1 fd1 ["_law_pot_here", "_law_many"] spDraw) (gW : mg "_law_draw" = some (.ref f1)) (kW : PySem.W.keepIn K (.ref f1) = true) (bW : Binds K fd1 ["_law_pot_here", "_law_many"] [])
    (GU : FnOk P w K mg base CX0 2 f2 fd2 ["_law_pot_here"] spNumber) (gU : mg "_law_number" = some (.ref f2)) (kU : PySem.W.keepIn K (.ref f2) = true) (bU : Binds K fd2 ["_law_pot_here"] []) (gAbs : mg "abs" = none) : FnOk P w K mg base CX0 6 f fd ["_law_pot_here"] (spMakes K CC CT) := by
  refine F.ok scCounting (fun vs H Q E h => ?_) (fun cdv A outer s H vs Q E hr h => ?_)
  · obtain ⟨p, rfl, _⟩ := h
    rfl
  · obtain ⟨p, rfl, hp, k⟩ := h
    have hr2 : Room 2 _ := hr.mono (by decide)
    have hr1 : Room 1 _ := hr.mono (by decide)
    have nd := scCounting.nd
    refine ⟨_, PSs.nox (pss_cons (ps_set (i := 1) nd rfl (Or.inl rfl) (pe_lst (pa_cons (pe_call GU hr2 rfl gU kU bU .nil pass0 (pa_cons (pv 0) pa_nil)) (pa_cons (pe_call GU hr2 rfl gU kU bU .nil pass0 (pa_cons (pv 0) pa_nil))
        (pa_cons (pe_ix ix_list (pe_lst (pa_cons pe_int (pa_cons (pe_op op_add pe_int (pe_call GW hr1 rfl gW kW bW .nil pass0 (pa_cons (pv 0) (pa_cons pe_int pa_nil)))) (pa_cons (pe_op op_add pe_int (pe_callB call_abs (by rfl) gAbs (by decide +kernel) (pa_cons (pe_call GU hr2 rfl gU kU bU .nil pass0 (pa_cons (pv 0) pa_nil)) pa_nil))) pa_nil))))
          (pe_call GW hr1 rfl gW kW bW .nil pass0 (pa_cons (pv 0) (pa_cons pe_int pa_nil))) (fun _ _ => rfl)) pa_nil)))))
      (pss_cons (ps_set (i := 2) nd rfl (Or.inl rfl) (pe_call GW hr1 rfl gW kW bW .nil pass0 (pa_cons (pv 0) (pa_cons pe_int pa_nil))))
      (pss_cons (ps_if (pt_cmpR op_eq (pv 2) pe_int (nomark _)) (pss_one (ps_ret (pe_tup (pa_cons (pe_make0 M GI hr rfl gC b0 v0 pass0) (pa_cons (pe_lst (pa_cons pe_int (pa_cons pe_int (pa_cons pe_int pa_nil)))) pa_nil))))) pss_nil)
      (pss_cons (ps_if (pt_cmpR op_eq (pv 2) pe_int (nomark _)) (pss_one (ps_ret (pe_tup (pa_cons (pe_make M GI hr rfl gC b1 v1 pass0 (pa_cons (pe_ix ix_list (pv 1) pe_int (fun _ _ => rfl)) pa_nil)) (pa_cons (pe_lst (pa_cons (pe_ix ix_list (pv 1) pe_int (fun _ _ => rfl)) (pa_cons pe_int (pa_cons pe_int pa_nil)))) pa_nil))))) pss_nil)
      (pss_cons (ps_if (pt_cmpR op_eq (pv 2) pe_int (nomark _)) (pss_one (ps_ret (pe_tup (pa_cons (pe_makeK0 M GI hr rfl gC kb pass0 (pk_cons (pe_ix ix_list (pv 1) pe_int (fun _ _ => rfl)) (pk_cons (pe_ix ix_list (pv 1) pe_int (fun _ _ => rfl)) pk_nil)))
          (pa_cons (pe_lst (pa_cons pe_int (pa_cons (pe_ix ix_list (pv 1) pe_int (fun _ _ => rfl)) (pa_cons (pe_ix ix_list (pv 1) pe_int (fun _ _ => rfl)) pa_nil)))) pa_nil))))) pss_nil)
      (pss_one (ps_ret (pe_tup (pa_cons (pe_make M GI hr rfl gC b3 v3 pass0 (pa_cons (pe_ix ix_list (pv 1) pe_int (fun _ _ => rfl)) (pa_cons (pe_ix ix_list (pv 1) pe_int (fun _ _ => rfl)) (pa_cons (pe_ix ix_list (pv 1) pe_int (fun _ _ => rfl)) pa_nil)))) (pa_cons (pv 1) pa_nil)))))))))), ?_⟩
    refine ⟨_, rfl, p, rfl, hp, fun a H1 a0 a1 k1 hp1 => ?_⟩
    refine ⟨_, rfl, p, rfl, hp1, fun st H2 s0 s1 k2 hp2 => ?_⟩
    refine ⟨_, rfl, p, 9, rfl, hp2, by decide, by decide, fun e H3 e0 e1 k3 hp3 => ?_⟩
    refine ⟨_, _, rfl, rfl, _, rfl, p, rfl, hp3, fun n H4 n0 n1 k4 hp4 => ?_⟩
    refine ⟨_, rfl, _, _, rfl, rfl, (by show 3 ≤ sizeLine; decide), fun l hl => ?_⟩
    have hp5 : PotAt (upd H4 l (.lst [V.int 0, V.int (1 + e), V.int (1 + if n < 0 then -n else n)])) p := hp4.keep (Same.new (Same.refl _) hl)
    refine ⟨_, rfl, p, 3, rfl, hp5, by decide, by decide, fun d H5 d0 d1 k5 hp6 => ?_⟩
    obtain ⟨z, ez, z0, z1⟩ : ∃ z : Int, atI [V.int 0, V.int (1 + e), V.int (1 + if n < 0 then -n else n)] d = some (.int z) ∧ 0 ≤ z ∧ z ≤ 10 ^ 56 := by
      have : d = 0 ∨ d = 1 ∨ d = 2 := by omega
      rcases this with rfl | rfl | rfl
      · exact ⟨_, rfl, by omega, by omega⟩
      · exact ⟨_, rfl, by omega, by omega⟩
      · exact ⟨_, rfl, by split <;> omega, by split <;> omega⟩
    have nl : l ≠ p := fun z => by
      obtain ⟨_, _, _, _, _, hx⟩ := hp4
      rw [z, hx] at hl
      cases hl
    have hl5 := k5 _ _ nl (upd_same (a := l) (H := H4))
    refine ⟨l, _, _, _, rfl, rfl, SqL.of hl5, ez, (by show 3 ≤ sizeLine; decide), fun o ho => ?_⟩
    have no : o ≠ p := fun z => by
      obtain ⟨_, _, _, _, _, hx⟩ := hp6
      rw [z, hx] at ho
      cases ho
    have K5 : Kept p H H5 := (((k1.trans k2).trans (k3.trans k4)).new hl).trans k5
    have hp7 : PotAt (upd H5 o (.lst [V.int a, V.int st, V.int z])) p := hp6.keep (Same.new (Same.refl _) ho)
    refine ⟨_, rfl, p, 4, rfl, hp7, by decide, by decide, fun t H6 t0 t1 k6 hp8 => ?_⟩
    have ho6 := k6 _ _ no (upd_same (a := o) (H := H5))
    have K6 : Kept p H H6 := (K5.new ho).trans k6
    refine ⟨_, rfl, rfl, _, rfl, ?_⟩
    have nt : Num a := ⟨a0, a1⟩
    have ns : Num st := ⟨s0, s1⟩
    have fin : ∀ (a' s' z' : Int) (x dx oo : Addr) (fs : List (Str × V)) (H7 H8 : Hp), Num a' → Num s' → 0 ≤ z' → z' ≤ 10 ^ 56 → H6 x = none → H6 dx = none → dx ≠ x → CountFs fs a' s' z' 0 → Kept x (upd (upd H6 dx (.own x)) x (.ins CC dx [])) H7 → H7 x = some (.ins CC dx fs) → Same H7 H8 → H8 oo = some (.lst [.int a', .int s', .int z']) →
        ∀ t, H8 t = none → Q (.ref t) (upd H8 t (.tup [.ref x, .ref oo])) := fun a' s' z' x dx oo fs H7 H8 q1 q2 q3 q4 nx ndx ne cf k7 hx s8 ho8 t ht => by
      have sA : Same H6 H8 := (made_same nx ndx ne k7).trans s8
      have sB : Same H8 (upd H8 t (.tup [.ref x, .ref oo])) := Same.new (Same.refl _) ht
      have sC := sA.trans sB
      exact k t _ _ _ (fun b u n e => sC _ _ (K6 b u n e)) (hp8.keep sC) (.inl (.inl upd_same)) (.inl ⟨⟨x, a', s', z'⟩, rfl, ⟨fs, ⟨dx, sB _ _ (s8 _ _ hx)⟩, cf, q1, q2, q3, q4⟩, oo, rfl, sB _ _ ho8⟩)
    refine ite2 (fun h => ?_) (fun h => ?_)
    · refine fun x dx nx ndx ne => ?_
      refine ⟨x, dx, 0, 1, 0, 0, 0, rfl, upd_same, by decide, by decide, by decide, fun fs H7 cf k7 hx => ?_⟩
      refine ⟨rfl, (by show 3 ≤ sizeLine; decide), fun oo hoo => ?_⟩
      refine ⟨(by show 2 ≤ sizeLine; decide), fun t ht => ?_⟩
      exact fin 0 1 0 x dx oo fs H7 _ (by unfold Num; decide) (by unfold Num; decide) (by decide) (by decide) nx ndx ne cf k7 hx (Same.new (Same.refl _) hoo) upd_same t ht
    refine ⟨_, rfl, rfl, _, rfl, ?_⟩
    refine ite2 (fun h => ?_) (fun h => ?_)
    · refine ⟨_, rfl, o, _, _, _, rfl, rfl, SqL.of ho6, atI_nat (j := 0) rfl, fun x dx nx ndx ne => ?_⟩
      refine ⟨x, dx, a, 1, 0, 0, 0, rfl, upd_same, by decide, by decide, by decide, fun fs H7 cf k7 hx => ?_⟩
      refine ⟨rfl, _, rfl, o, _, _, _, rfl, rfl, SqL.of (made_same nx ndx ne k7 _ _ ho6), atI_nat (j := 0) rfl, (by show 3 ≤ sizeLine; decide), fun oo hoo => ?_⟩
      refine ⟨(by show 2 ≤ sizeLine; decide), fun t ht => ?_⟩
      exact fin a 1 0 x dx oo fs H7 _ nt (by unfold Num; decide) (by decide) (by decide) nx ndx ne cf k7 hx (Same.new (Same.refl _) hoo) upd_same t ht
    refine ⟨_, rfl, rfl, _, rfl, ?_⟩
    refine ite2 (fun h => ?_) (fun h => ?_)
    · refine ⟨_, rfl, o, _, _, _, rfl, rfl, SqL.of ho6, atI_nat (j := 2) rfl, _, rfl, o, _, _, _, rfl, rfl, SqL.of ho6, atI_nat (j := 1) rfl, rfl, rfl, fun x dx nx ndx ne => ?_⟩
      refine ⟨x, dx, 0, st, z, 0, 0, rfl, upd_same, z0, by decide, by decide, fun fs H7 cf k7 hx => ?_⟩
      have ho7 := made_same nx ndx ne k7 _ _ ho6
      refine ⟨rfl, _, rfl, o, _, _, _, rfl, rfl, SqL.of ho7, atI_nat (j := 1) rfl, _, rfl, o, _, _, _, rfl, rfl, SqL.of ho7, atI_nat (j := 2) rfl, (by show 3 ≤ sizeLine; decide), fun oo hoo => ?_⟩
      refine ⟨(by show 2 ≤ sizeLine; decide), fun t ht => ?_⟩
      exact fin 0 st z x dx oo fs H7 _ (by unfold Num; decide) ns z0 z1 nx ndx ne cf k7 hx (Same.new (Same.refl _) hoo) upd_same t ht
    · refine ⟨_, rfl, o, _, _, _, rfl, rfl, SqL.of ho6, atI_nat (j := 0) rfl, _, rfl, o, _, _, _, rfl, rfl, SqL.of ho6, atI_nat (j := 1) rfl, _, rfl, o, _, _, _, rfl, rfl, SqL.of ho6, atI_nat (j := 2) rfl, fun x dx nx ndx ne => ?_⟩
      refine ⟨x, dx, a, st, z, 0, 0, rfl, upd_same, z0, by decide, by decide, fun fs H7 cf k7 hx => ?_⟩
      have ho7 := made_same nx ndx ne k7 _ _ ho6
      refine ⟨rfl, _, rfl, (by show 2 ≤ sizeLine; decide), fun t ht => ?_⟩
      exact fin a st z x dx o fs H7 _ nt ns z0 z1 nx ndx ne cf k7 hx (Same.refl _) ho7 t ht
end
end Sw
namespace Sw
open PySem PySem.Spec PyProof.Rows L2
section
variable {P : Program} {w : World} {K : PySem.W.Frag} {mg : Str → Option Value} {base : Heap} {f f1 f2 f3 f4 f5 f6 C CC CT CN : Addr} {fd fd1 fd2 fd3 fd4 fd5 fd6 : FuncData}
theorem scTaping : FnScope ["_law_pot_here", "_law_row", "_law_handed", "_law_told", "_law_node"] ["_law_pot_here"] (defScope sTaping) := ⟨rfl, rfl, rfl, by decide +kernel, rfl, by decide +kernel, by decide +kernel⟩
theorem ok_taping {ds2 ds3 : List Value} {gK : List Value → List Value → List Value} (F : FnP K "_law_taping" sTaping f fd) (M : Mk K CT f3) (GI : FnOk P w K mg base CX0 4 f3 fd3 ["self", "numbers", "again", "late", "begin"] (spTapeInit K CT)) (gT : mg "Tape" = some (.ref CT))
    (b2 : Binds K fd3 ["self", "numbers", "again", "late", "begin"] ds2) (v2 : Vals [.bl false, .int 0, .int 0] ds2) (b3 : Binds K fd3 ["self", "numbers", "again", "late", "begin"] ds3) (v3 : Vals [.int 0, .int 0] ds3)
    (kb : KBn K fd3 ["self", "numbers", "again", "late", "begin"] 1 ["again", "numbers"] gK (fun vs zs => vs ++ (zs.drop 1 ++ (zs.take 1 ++ [.int 0, .int 0]))))
    (GW : FnOk P w K mg base CX0 1 f1 fd1 ["_law_pot_here", "_law_many"] spDraw) (gW : mg "_law_draw" = some (.ref f1)) (kW : PySem.W.keepIn K (.ref f1) = true) (bW : Binds K fd1 ["_law_pot_here", "_law_many"] [])
    (GU : FnOk P w K mg base CX0 3 f2 fd2 ["_law_pot_here", "_law_most"] spNumbers) (gU : mg "_law_numbers" = some (.ref f2)) (kU : PySem.W.keepIn K (.ref f2) = true) (bU : Binds K fd2 ["_law_pot_here", "_law_most"] []) (gList : mg "list" = none) : FnOk P w K mg base CX0 6 f fd ["_law_pot_here"] (spMakes K CC CT) := by
  refine F.ok scTaping (fun vs H Q E h => ?_) (fun cdv A outer s H vs Q E hr h => ?_)
  · obtain ⟨p, rfl, _⟩ := h
    rfl
  · obtain ⟨p, rfl, hp, k⟩ := h
    have hr3 : Room 3 _ := hr.mono (by decide)
    have hr1 : Room 1 _ := hr.mono (by decide)
    have nd := scTaping.nd
    refine ⟨_, PSs.nox (pss_cons (ps_set (i := 1) nd rfl (Or.inl rfl) (pe_call GU hr3 rfl gU kU bU .nil pass0 (pa_cons (pv 0) (pa_cons pe_int pa_nil))))
      (pss_cons (ps_set (i := 2) nd rfl (Or.inl rfl) (pe_callTy call_list_of (by rfl) gList PyProof.Rows.boot_list (pa_cons (pv 1) pa_nil)))
      (pss_cons (ps_set (i := 3) nd rfl (Or.inl rfl) (pe_call GW hr1 rfl gW kW bW .nil pass0 (pa_cons (pv 0) (pa_cons pe_int pa_nil))))
      (C8.pss_cut (ps_if (pt_cmpR op_eq (pv 3) pe_int (nomark _)) (pss_one (ps_set (i := 4) nd rfl (Or.inl rfl) (pe_make M GI hr rfl gT b2 v2 pass0 (pa_cons (pv 2) pa_nil))))
          (pss_one (ps_if (pt_cmpR op_eq (pv 3) pe_int (nomark _)) (pss_one (ps_set (i := 4) nd rfl (Or.inl rfl) (pe_make M GI hr rfl gT b3 v3 pass0 (pa_cons (pv 2) (pa_cons pe_bl pa_nil)))))
            (pss_one (ps_set (i := 4) nd rfl (Or.inl rfl) (pe_makeK0 M GI hr rfl gT kb pass0 (pk_cons pe_bl (pk_cons (pv 2) pk_nil))))))))
      (pss_cons (ps_expr (pe_bm0 PySem.F.plainAttrs_list PySem.F.slot_list_clear PySem.F.type_list_clear mt_clear (pv 2)))
      (pss_one (ps_ret (pe_tup (pa_cons (pv 4) (pa_cons (pe_lst (pa_cons (pv 1) (pa_cons (pe_cmpR op_eq (pv 3) pe_int (nomark _)) pa_nil))) pa_nil)))))))))), ?_⟩
    refine ⟨_, rfl, p, 60, rfl, hp, by decide, by decide, fun row ns H1 k1 hp1 nrow hrow n1 n60 hns => ?_⟩
    have n60' : ns.length ≤ 60 := by omega
    have nrp : row ≠ p := fun z => by
      obtain ⟨_, _, _, _, _, hx⟩ := hp
      rw [z, hx] at nrow
      cases nrow
    refine ⟨_, rfl, row, _, rfl, .inl (SqL.of hrow), fun h hh => ?_⟩
    have nhp : h ≠ p := fun z => by
      obtain ⟨_, _, _, _, _, hx⟩ := hp1
      rw [z, hx] at hh
      cases hh
    have nhr : h ≠ row := fun z => by
      rw [z, hrow] at hh
      cases hh
    have nH : H h = none := by
      cases e : H h with
      | none => rfl
      | some o =>
        rw [k1 h o nhp e] at hh
        cases hh
    have hp2 : PotAt (upd H1 h (.lst (ns.map V.int))) p := hp1.keep (Same.new (Same.refl _) hh)
    refine ⟨_, rfl, p, 3, rfl, hp2, by decide, by decide, fun d H2 d0 d1 k2 hp3 => ?_⟩
    have hh2 := k2 _ _ nhp (upd_same (a := h) (H := H1))
    have hrow2 := k2 _ _ nrp (by rw [upd_ne nhr.symm]; exact hrow)
    have K2 : Kept p H H2 := (k1.new hh).trans k2
    refine ⟨fun σ' H' => ∃ (x dx ln : Addr) (fs : List (Str × V)), σ' = [some (.ref p), some (.ref row), some (.ref h), some (.int d), some (.ref x)] ∧ H' x = some (.ins CT dx fs) ∧ TapeFs fs ln (decide (V.int d = V.int 1)) 0 ∧ H' ln = some (.lst (ns.map V.int)) ∧ ln ≠ p ∧ ln ≠ h ∧ Same H2 H', ?_, ?_⟩
    · have fin : ∀ (x dx : Addr) (fs : List (Str × V)) (ln : Addr) (H' : Hp), H2 x = none → H2 dx = none → dx ≠ x → TapeFs fs ln (decide (V.int d = V.int 1)) 0 → Kept x (upd (upd H2 dx (.own x)) x (.ins CT dx [])) H' → H' x = some (.ins CT dx fs) → upd (upd H2 dx (.own x)) x (.ins CT dx []) ln = none → H' ln = some (.lst (ns.map V.int)) →
          ∃ (x_1 dx ln : Addr) (fs : List (Str × V)), [some (V.ref p), some (V.ref row), some (V.ref h), some (V.int d), some (V.ref x)] = [some (.ref p), some (.ref row), some (.ref h), some (.int d), some (.ref x_1)] ∧ H' x_1 = some (.ins CT dx fs) ∧ TapeFs fs ln (decide (V.int d = V.int 1)) 0 ∧ H' ln = some (.lst (ns.map V.int)) ∧ ln ≠ p ∧ ln ≠ h ∧ Same H2 H' := fun x dx fs ln H' nx ndx ne cf k7 hx nln hln => by
        have n1 : ln ≠ x := fun z => by
          rw [z, upd_same] at nln
          cases nln
        have n2 : ln ≠ dx := fun z => by
          rw [upd_ne n1, z, upd_same] at nln
          cases nln
        have n3 : H2 ln = none := by
          rw [upd_ne n1, upd_ne n2] at nln
          exact nln
        refine ⟨x, dx, ln, fs, rfl, hx, cf, hln, fun z => ?_, fun z => ?_, made_same nx ndx ne k7⟩
        · obtain ⟨_, _, _, _, _, hx⟩ := hp3
          rw [z, hx] at n3
          cases n3
        · rw [z, hh2] at n3
          cases n3
      have hhx : ∀ {x dx : Addr}, H2 x = none → H2 dx = none → upd (upd H2 dx (.own x)) x (.ins CT dx []) h = some (.lst (ns.map V.int)) := fun {x dx} nx ndx => by
        rw [upd_ne (fun z => by rw [← z, hh2] at nx; cases nx), upd_ne (fun z => by rw [← z, hh2] at ndx; cases ndx)]
        exact hh2
      refine ⟨_, rfl, rfl, _, rfl, ?_⟩
      refine ite2 (fun e => ?_) (fun e => ?_)
      · have ed : d = 0 := by
          have := of_decide_eq_true e
          injection this
        subst ed
        refine ⟨_, rfl, fun x dx nx ndx ne => ?_⟩
        exact ⟨x, dx, h, ns, false, 0, 0, rfl, upd_same, hhx nx ndx, n1, n60', by decide, by decide, fun fs ln H' cf k7 hx nln hln => ⟨rfl, fin x dx fs ln H' nx ndx ne cf k7 hx nln hln⟩⟩
      refine ⟨_, rfl, rfl, _, rfl, ?_⟩
      refine ite2 (fun e1 => ?_) (fun e1 => ?_)
      · refine ⟨_, rfl, fun x dx nx ndx ne => ?_⟩
        exact ⟨x, dx, h, ns, true, 0, 0, rfl, upd_same, hhx nx ndx, n1, n60', by decide, by decide, fun fs ln H' cf k7 hx nln hln => ⟨rfl, fin x dx fs ln H' nx ndx ne (e1 ▸ cf) k7 hx nln hln⟩⟩
      · refine ⟨_, rfl, rfl, rfl, fun x dx nx ndx ne => ?_⟩
        exact ⟨x, dx, h, ns, false, 0, 0, rfl, upd_same, hhx nx ndx, n1, n60', by decide, by decide, fun fs ln H' cf k7 hx nln hln => ⟨rfl, fin x dx fs ln H' nx ndx ne ((Bool.eq_false_iff.mpr e1) ▸ cf) k7 hx nln hln⟩⟩
    · rintro σ' H' ⟨x, dx, ln, fs, rfl, hx, cf, hln, nlp, nlh, s2⟩
      have nhx : x ≠ h := fun z => by
        rw [z, s2 _ _ hh2] at hx
        cases hx
      refine ⟨_, rfl, .inl ⟨rfl, _, SqL.of (s2 _ _ hh2)⟩, h, _, rfl, rfl, s2 _ _ hh2, ?_⟩
      refine ⟨_, rfl, _, rfl, _, rfl, rfl, (by show 2 ≤ sizeLine; decide), fun o ho => ?_⟩
      refine ⟨(by show 2 ≤ sizeLine; decide), fun t ht => ?_⟩
      have KA : Kept p H H' := fun b u n e => s2 _ _ (K2 b u n e)
      have KB : Kept p H (upd H' h (.lst [])) := KA.past nH
      have hpB : PotAt (upd H' h (.lst [])) p := by
        obtain ⟨a1, a2, a3, a4, a5, a6⟩ := hp3
        exact ⟨a1, a2, a3, a4, a5, by rw [upd_ne nhp.symm]; exact s2 _ _ a6⟩
      have sC : Same (upd H' h (.lst [])) (upd (upd (upd H' h (.lst [])) o (.lst [V.ref row, V.bl (decide (V.int d = V.int 1))])) t (.tup [V.ref x, V.ref o])) := Same.new (Same.new (Same.refl _) ho) ht
      refine k t _ _ _ (fun b u n e => sC _ _ (KB b u n e)) (hpB.keep sC) (.inl (.inl upd_same)) (.inr ⟨⟨x, ln, ns, decide (V.int d = V.int 1)⟩, rfl, ?_, ?_⟩)
      · exact ⟨fs, ⟨dx, sC _ _ (by rw [upd_ne nhx]; exact hx)⟩, cf, sC _ _ (by rw [upd_ne nlh]; exact hln), nlp, n1, n60', hns⟩
      · exact ⟨o, row, rfl, nrp, Same.new (Same.refl _) ht _ _ upd_same, sC _ _ (by rw [upd_ne nhr.symm]; exact s2 _ _ hrow2)⟩
def spLaw (K : PySem.W.Frag) : Sp := fun vs H Q _ => ∃ (a : Addr) (ns : List Int), vs = [.ref a] ∧ SqL K H a (ns.map V.int) ∧ ns.length ≤ 63 ∧ ∀ H', Q (.bl true) H'
theorem scLaw : FnScope ["_law_script", "_law_k", "_law_pot_here", "_law_node", "_law_own"] ["_law_script"] (defScope sLaw) := ⟨rfl, rfl, rfl, by decide +kernel, rfl, by decide +kernel, by decide +kernel⟩
theorem ok_law (F : FnP K "law" sLaw f fd)
    (GCe : FnOk P w K mg base CX0 1 f1 fd1 ["_law_script", "_law_k"] (spCell K)) (gCe : mg "_law_cell" = some (.ref f1)) (kCe : PySem.W.keepIn K (.ref f1) = true) (bCe : Binds K fd1 ["_law_script", "_law_k"] [])
    (GPo : FnOk P w K mg base CX0 1 f2 fd2 ["_law_cell_here"] spPot) (gPo : mg "_law_pot" = some (.ref f2)) (kPo : PySem.W.keepIn K (.ref f2) = true) (bPo : Binds K fd2 ["_law_cell_here"] [])
    (GDr : FnOk P w K mg base CX0 1 f3 fd3 ["_law_pot_here", "_law_many"] spDraw) (gDr : mg "_law_draw" = some (.ref f3)) (kDr : PySem.W.keepIn K (.ref f3) = true) (bDr : Binds K fd3 ["_law_pot_here", "_law_many"] [])
    (GCo : FnOk P w K mg base CX0 6 f4 fd4 ["_law_pot_here"] (spMakes K CC CT)) (gCo : mg "_law_counting" = some (.ref f4)) (kCo : PySem.W.keepIn K (.ref f4) = true) (bCo : Binds K fd4 ["_law_pot_here"] [])
    (GTa : FnOk P w K mg base CX0 6 f5 fd5 ["_law_pot_here"] (spMakes K CC CT)) (gTa : mg "_law_taping" = some (.ref f5)) (kTa : PySem.W.keepIn K (.ref f5) = true) (bTa : Binds K fd5 ["_law_pot_here"] [])
    (GRi : FnG P w K mg base CX0 6 f6 fd6 ["_law_pot_here", "_law_node", "_law_own"] (fun vs H Q E => spMRight (countM K CC) vs H Q E ∨ spMRight (tapeM K CT) vs H Q E)) (gRi : mg "_law_right" = some (.ref f6)) (kRi : PySem.W.keepIn K (.ref f6) = true) (bRi : Binds K fd6 ["_law_pot_here", "_law_node", "_law_own"] [])
    (gRange : mg "range" = none) (gMax : mg "max" = none) (gMin : mg "min" = none) (gLen : mg "len" = none) : FnG P w K mg base CX0 8 f fd ["_law_script"] (spLaw K) := by
  refine F.okG scLaw (fun vs H Q E h => ?_) (fun cdv A outer s H vs Q E hr guard h => ?_)
  · obtain ⟨a, ns, rfl, _⟩ := h
    rfl
  · obtain ⟨a, ns, rfl, hS, hlen, kk⟩ := h
    have hr6 : Room 6 _ := hr.mono (by decide)
    have hr1 : Room 1 _ := hr.mono (by decide)
    have nd := scLaw.nd
    refine ⟨_, PSs.nox (pss_cons (ps_for PassesOwn.never rfl (pi_range1 rfl gRange (pa_cons (pe_callB (call_max2 rfl) (by rfl) gMax (by decide +kernel) (pa_cons pe_int (pa_cons (pe_callB (call_min2 rfl) (by rfl) gMin (by decide +kernel)
          (pa_cons (pe_callB call_len_seq (by rfl) gLen PySem.boot_len (pa_cons (pv 0) pa_nil)) (pa_cons pe_int pa_nil))) pa_nil))) pa_nil)) (pg_name (i := 1) nd rfl (Or.inl rfl))
        (pss_cons (ps_set (i := 2) nd rfl (Or.inl rfl) (pe_call GPo hr1 rfl gPo kPo bPo .nil pass0 (pa_cons (pe_call GCe hr1 rfl gCe kCe bCe .nil pass0 (pa_cons (pv 0) (pa_cons (pv 1) pa_nil))) pa_nil)))
        (pss_cons (ps_asg (pe_callOf (fs := [f4, f5]) (sp := spMakes K CC CT) (pe_ix ix_list (pe_lst (pa_cons (pe_glob (v := .ref f4) rfl gCo rfl) (pa_cons (pe_glob (v := .ref f5) rfl gTa rfl) pa_nil))) (pe_call GDr hr1 rfl gDr kDr bDr .nil pass0 (pa_cons (pv 2) (pa_cons pe_int pa_nil))) (fun _ _ => rfl))
              (fun g hg => by
                rcases List.mem_cons.mp hg with rfl | hg
                · exact ⟨_, _, GCo, kCo, bCo⟩
                · rcases List.mem_cons.mp hg with rfl | hg
                  · exact ⟨_, _, GTa, kTa, bTa⟩
                  · cases hg) hr6 (pa_cons (pv 2) pa_nil))
            (pg_tup rfl (pgs_cons (pg_name (i := 3) nd rfl (Or.inl rfl)) (pgs_cons (pg_name (i := 4) nd rfl (Or.inl rfl)) pgs_nil))))
        (pss_one (ps_if (pt_not (pt_val (pe_callG GRi hr6 guard rfl gRi kRi bRi .nil pass0 (pa_cons (pv 2) (pa_cons (pv 3) (pa_cons (pv 4) pa_nil)))))) (pss_one (ps_ret pe_bl)) pss_nil)))))
      (pss_one (ps_ret pe_bl))), ?_⟩
    refine ⟨_, rfl, a, _, rfl, .inl hS, _, _, rfl, _, _, rfl, _, rfl, ?_, ?_, for_range (fun i σ H' => ∃ (vs : List (Option V)), σ = some (.ref a) :: vs ∧ vs.length = 4 ∧ Same H H') ⟨_, rfl, rfl, Same.refl _⟩ ?_ ?_⟩
    · rw [List.length_map]
      split <;> split <;> omega
    · rw [List.length_map]
      split <;> split <;> omega
    · rintro i σ H1 hi ⟨vs, rfl, hvs, s1⟩
      obtain ⟨u1, u2, u3, u4, rfl⟩ : ∃ u1 u2 u3 u4, vs = [u1, u2, u3, u4] := by
        match vs, hvs with
        | [u1, u2, u3, u4], _ => exact ⟨_, _, _, _, rfl⟩
      refine ⟨_, rfl, _, rfl, a, ns, i, ?_, s1.seq hS, fun z => ?_⟩
      · rw [Int.zero_add]
        rfl
      refine ⟨z, rfl, fun p H2 np s2 hp => ?_⟩
      have p0 : H p = none := s1.free np
      have t2 := s1.trans s2
      refine ⟨(by show 2 ≤ sizeLine; decide), fun l hl => ?_⟩
      have hp2 : PotAt (upd H2 l (.lst [V.ref f4, V.ref f5])) p := hp.keep (Same.new (Same.refl _) hl)
      refine ⟨_, rfl, p, 2, rfl, hp2, by decide, by decide, fun d H3 d0 d1 k3 hp3 => ?_⟩
      have nl : l ≠ p := fun z => by
        obtain ⟨_, _, _, _, _, hx⟩ := hp
        rw [z, hx] at hl
        cases hl
      have hl3 := k3 _ _ nl (upd_same (a := l) (H := H2))
      have t3 := Same.kept (Same.new (o := .lst [V.ref f4, V.ref f5]) t2 hl) p0 k3
      obtain ⟨g, eg, hg⟩ : ∃ g, atI [V.ref f4, V.ref f5] d = some (.ref g) ∧ g ∈ [f4, f5] := by
        have : d = 0 ∨ d = 1 := by omega
        rcases this with rfl | rfl
        · exact ⟨_, rfl, List.mem_cons_self⟩
        · exact ⟨_, rfl, List.mem_cons_of_mem _ List.mem_cons_self⟩
      refine ⟨l, _, _, _, rfl, rfl, SqL.of hl3, eg, g, hg, rfl, _, rfl, p, rfl, hp3, fun t n o H4 k4 hp4 ht rt => ?_⟩
      have t4 := Same.kept t3 p0 k4
      refine ⟨t, _, rfl, ht, rfl, ?_⟩
      refine ⟨n, _, rfl, o, _, rfl, rfl, ?_⟩
      refine ⟨_, rfl, _, rfl, _, rfl, ?_⟩
      rcases rt with ⟨j, rfl, q1, q2⟩ | ⟨j, rfl, q1, q2⟩
      · refine .inl ⟨j, p, o, rfl, hp4, q1, q2, fun H5 k5 hp5 => ⟨_, rfl, iteF ?_⟩⟩
        exact ⟨_, rfl, rfl, Same.kept t4 p0 k5⟩
      · refine .inr ⟨j, p, o, rfl, hp4, q1, q2, fun H5 k5 hp5 => ⟨_, rfl, iteF ?_⟩⟩
        exact ⟨_, rfl, rfl, Same.kept t4 p0 k5⟩
    · rintro σ H1 ⟨vs, rfl, hvs, s1⟩
      exact kk H1
end
end Sw
namespace Sw
open PySem PySem.Spec PyProof.Rows L2
/-! ### the head: facts by names -/
/-- as hookD, with one test more of the written part -/
def obsX (fa : List He.Fa) (fn : List He.DefD) (ex : PySem.W.Frag → Bool) (K : PySem.W.Frag) : Bool × He.AlD := (ex K, He.obsD fa fn K)
def obsXG (n : Nat) (fa : List He.Fa) (fn : List He.DefD) (ex : PySem.W.Frag → Bool) (g : Addr → Option Obj) : Bool × He.AlD := obsX fa fn ex (He.frG g (cStatics :: He.asD g n))
def hookX (n : Nat) (fa : List He.Fa) (fn : List He.DefD) (ex : PySem.W.Frag → Bool) : PySem.W.Hook where
  α := Bool × He.AlD
  obs := fun s => obsXG n fa fn ex s.heap.get?
  val := fun _ => (true, He.valD fn)
  says := fun _ h => ∃ K : PySem.W.Frag, K.In h ∧ ex K = true ∧ He.SaysD fa fn K
  of := fun _ _ e => ⟨_, He.frG_in, congrArg (fun z : Bool × He.AlD => z.1) e, congrArg (fun z : Bool × He.AlD => z.2) e⟩
  keeps := fun _ _ _ ⟨K, hK, c⟩ k => ⟨K, PySem.W.Frag.In.keeps hK k, c⟩
theorem obsXG_eq {n : Nat} {fa : List He.Fa} {fn : List He.DefD} {ex : PySem.W.Frag → Bool} {g : Addr → Option Obj} {s : Shared} (h : ∀ a, g a = s.heap.get? a) : obsXG n fa fn ex g = (hookX n fa fn ex).obs s := by
  have e : g = s.heap.get? := funext h
  rw [e] <;> rfl
def kitF (K : PySem.W.Frag) (t u : Value) (b : Bool) : Bool := decide (PySem.W.kitOne K t u = some b)
def dfn (x : Str) (st : Stmt) : He.DefD := ⟨(x, none), x, x, defArgs st, defBody st, defScope st, [], []⟩
def baseB (K : PySem.W.Frag) (C f : Addr) (m : Str) : Bool := PySem.W.readsIn K C (.type "type") && (decide (PySem.W.specialIn K (.ref C) "__getattribute__" = some (some (.builtin "type.__getattribute__"))) &&
  ((match PySem.W.findCls K (.ref C) (.type "type") m with
    | some (.val (.ref g)) => decide (g = f)
    | _ => false) && PySem.W.keepIn K (.ref f)))
theorem baseB_ok {K : PySem.W.Frag} {C f : Addr} {m : Str} (h : baseB K C f m = true) : BaseM K C m f := by
  obtain ⟨h1, h⟩ := He.ba h
  obtain ⟨h2, h⟩ := He.ba h
  obtain ⟨h3, h4⟩ := He.ba h
  refine ⟨h1, of_decide_eq_true h2, ?_, h4⟩
  cases e : PySem.W.findCls K (.ref C) (.type "type") m with
  | none =>
    rw [e] at h3
    cases h3
  | some r =>
    rw [e] at h3
    cases r with
    | val v =>
      cases v with
      | ref g => rw [of_decide_eq_true (show decide (g = f) = true from h3)]
      | _ => cases h3
    | get _ _ _ _ => cases h3
theorem vals_take1 {vs : List V} {us : List Value} (r : Vals vs us) : Vals (vs.take 1) (us.take 1) := by
  cases r with
  | nil => exact .nil
  | cons a _ => exact .cons a .nil
def fn : List He.DefD := [dfn "is_whole" sWhole, dfn "is_whole_within" sWithin, dfn "is_truth" sTruth, dfn "are_wholes" sWholes, dfn "is_list_of_wholes" sListOf, dfn "need" sNeed, dfn "run_firing" sFiring, dfn "_law_cell" sCell, dfn "_law_pot" sPot, dfn "_law_draw" sDraw, dfn "_law_number" sNumber, dfn "_law_numbers" sNumbers, dfn "_law_counting" sCounting, dfn "_law_taping" sTaping, dfn "_law_due" sLDue, dfn "_law_right" sLRight, dfn "law" sLaw, (⟨("Node", some "__init__"), "__init__", "Node.__init__", defArgs sNodeInit, defBody sNodeInit, defScope sNodeInit, [], []⟩ : He.DefD), (⟨("Count", some "__init__"), "__init__", "Count.__init__", defArgs sCountInit, defBody sCountInit, defScope sCountInit, [.int 0, .int 1, .int 0], [("late", .int 0), ("begin", .int 0)]⟩ : He.DefD), (⟨("Count", some "takes"), "takes", "Count.takes", defArgs sCountTakes, defBody sCountTakes, defScope sCountTakes, [], []⟩ : He.DefD), (⟨("Count", some "gives"), "gives", "Count.gives", defArgs sCountGives, defBody sCountGives, defScope sCountGives, [], []⟩ : He.DefD), (⟨("Count", some "fresh"), "fresh", "Count.fresh", defArgs sCountFresh, defBody sCountFresh, defScope sCountFresh, [], []⟩ : He.DefD), (⟨("Count", some "fire"), "fire", "Count.fire", defArgs sCountFire, defBody sCountFire, defScope sCountFire, [], []⟩ : He.DefD), (⟨("Count", some "work"), "work", "Count.work", defArgs sCountWork, defBody sCountWork, defScope sCountWork, [], []⟩ : He.DefD), (⟨("Tape", some "__init__"), "__init__", "Tape.__init__", defArgs sTapeInit, defBody sTapeInit, defScope sTapeInit, [.bl false], [("late", .int 0), ("begin", .int 0)]⟩ : He.DefD), (⟨("Tape", some "takes"), "takes", "Tape.takes", defArgs sTapeTakes, defBody sTapeTakes, defScope sTapeTakes, [], []⟩ : He.DefD), (⟨("Tape", some "gives"), "gives", "Tape.gives", defArgs sTapeGives, defBody sTapeGives, defScope sTapeGives, [], []⟩ : He.DefD), (⟨("Tape", some "fresh"), "fresh", "Tape.fresh", defArgs sTapeFresh, defBody sTapeFresh, defScope sTapeFresh, [], []⟩ : He.DefD), (⟨("Tape", some "fire"), "fire", "Tape.fire", defArgs sTapeFire, defBody sTapeFire, defScope sTapeFire, [], []⟩ : He.DefD), (⟨("Tape", some "work"), "work", "Tape.work", defArgs sTapeWork, defBody sTapeWork, defScope sTapeWork, [], []⟩ : He.DefD)]
def fa : List He.Fa := [.glo "is_whole", .glo "is_whole_within", .glo "is_truth", .glo "are_wholes", .glo "is_list_of_wholes", .glo "need", .glo "run_firing", .glo "_law_cell", .glo "_law_pot", .glo "_law_draw", .glo "_law_number", .glo "_law_numbers", .glo "_law_counting", .glo "_law_taping", .glo "_law_due", .glo "_law_right", .glo "law", .free "len", .free "max", .free "min", .free "range", .free "isinstance", .free "int", .free "bool", .free "list", .free "repr", .free "all", .free "abs", .int "MOST_LATE" 99, .int "MOST_BEGIN" 9999, .int "MOST_TAPED" 60, .glo "Node", .glo "Count", .glo "Tape", .cls "Count", .noat "Count" "made", .noat "Count" "late_by", .noat "Count" "begin_at", .noat "Count" "first", .noat "Count" "step", .noat "Count" "size", .mkr "Count", .meth "Count" "takes", .meth "Count" "gives", .meth "Count" "fresh", .meth "Count" "fire", .meth "Count" "work", .cls "Tape", .noat "Tape" "made", .noat "Tape" "late_by", .noat "Tape" "begin_at", .noat "Tape" "numbers", .noat "Tape" "again", .mkr "Tape", .meth "Tape" "takes", .meth "Tape" "gives", .meth "Tape" "fresh", .meth "Tape" "fire", .meth "Tape" "work"]
def ex (K : PySem.W.Frag) : Bool := baseB K (He.ga K "Node") (He.ma K (He.ga K "Node") "__init__") "__init__"
abbrev R : PySem.W.OpenRow := PySem.W.OpenLaw.row PySem.Challenge.rw_sampleweave_k15_counts_and_tapes
abbrev hk : PySem.W.Hook := hookX 5 fa fn ex
def ob (s : PySem.W.SharedT) : Bool × He.AlD := obsXG 5 fa fn ex (HandSHeadRun.getT s)
theorem ob_eq (s : PySem.W.SharedT) : ob s = hk.obs s.abs := obsXG_eq (HandSHeadRun.getT_eq s)
def loose : List Str := ["_wall", "WeaveError", "NoNode", "is_whole", "is_whole_within", "is_truth", "are_wholes", "is_list_of_wholes", "need", "run_firing", "MOST_LATE", "MOST_BEGIN", "Node", "MOST_TAPED", "Count", "Tape", "_law_cell", "_law_pot", "_law_draw", "_law_number", "_law_numbers", "_law_counting", "_law_taping", "_law_due", "_law_right"]
theorem run (w : World) : HandSHeadRun.RunEq R (PySem.W.view R.prog [31]) hk ob 9000 loose w := by
  intro os
  kernel_rfl
theorem facts {P : Program} {w : World} {K : PySem.W.Frag} {h : Heap} {mg : Str → Option Value} {f : Addr} (X : K.In h) (G : h.Ns mainGlobals mg) (hfa : mg ("law" : Str) = some (.ref f)) (cx : ex K = true) (c : He.SaysD fa fn K) :
    ∃ fd : FuncData, (∀ (s : Shared) (v : Value), BindsTo s fd ⟨[v], []⟩ [("_law_script", v)]) ∧ ∀ base : Heap, K.In base → base.Ns mainGlobals mg → FnG P w K mg base CX0 8 f fd ["_law_script"] (spLaw K) := by
  unfold ex at cx
  obtain ⟨d_is_whole, F_is_whole⟩ := c.def_ 0 (d := dfn "is_whole" sWhole) rfl
  have g_is_whole := He.glo_ok X G (c.fact 0 (f := .glo "is_whole") rfl)
  have b_is_whole : Binds K d_is_whole ["thing"] [] := FunD.bindsN F_is_whole fun _ _ _ _ _ _ us hl => match us, hl with | [_], _ => rfl
  obtain ⟨d_is_whole_within, F_is_whole_within⟩ := c.def_ 1 (d := dfn "is_whole_within" sWithin) rfl
  have g_is_whole_within := He.glo_ok X G (c.fact 1 (f := .glo "is_whole_within") rfl)
  have b_is_whole_within : Binds K d_is_whole_within ["thing", "least", "most"] [] := FunD.bindsN F_is_whole_within fun _ _ _ _ _ _ us hl => match us, hl with | [_, _, _], _ => rfl
  obtain ⟨d_is_truth, F_is_truth⟩ := c.def_ 2 (d := dfn "is_truth" sTruth) rfl
  have g_is_truth := He.glo_ok X G (c.fact 2 (f := .glo "is_truth") rfl)
  have b_is_truth : Binds K d_is_truth ["thing"] [] := FunD.bindsN F_is_truth fun _ _ _ _ _ _ us hl => match us, hl with | [_], _ => rfl
  obtain ⟨d_are_wholes, F_are_wholes⟩ := c.def_ 3 (d := dfn "are_wholes" sWholes) rfl
  have g_are_wholes := He.glo_ok X G (c.fact 3 (f := .glo "are_wholes") rfl)
  have b_are_wholes : Binds K d_are_wholes ["things"] [] := FunD.bindsN F_are_wholes fun _ _ _ _ _ _ us hl => match us, hl with | [_], _ => rfl
  obtain ⟨d_is_list_of_wholes, F_is_list_of_wholes⟩ := c.def_ 4 (d := dfn "is_list_of_wholes" sListOf) rfl
  have g_is_list_of_wholes := He.glo_ok X G (c.fact 4 (f := .glo "is_list_of_wholes") rfl)
  have b_is_list_of_wholes : Binds K d_is_list_of_wholes ["thing", "least", "most"] [] := FunD.bindsN F_is_list_of_wholes fun _ _ _ _ _ _ us hl => match us, hl with | [_, _, _], _ => rfl
  obtain ⟨d_need, F_need⟩ := c.def_ 5 (d := dfn "need" sNeed) rfl
  have g_need := He.glo_ok X G (c.fact 5 (f := .glo "need") rfl)
  have b_need : Binds K d_need ["holds", "field"] [] := FunD.bindsN F_need fun _ _ _ _ _ _ us hl => match us, hl with | [_, _], _ => rfl
  obtain ⟨d_run_firing, F_run_firing⟩ := c.def_ 6 (d := dfn "run_firing" sFiring) rfl
  have g_run_firing := He.glo_ok X G (c.fact 6 (f := .glo "run_firing") rfl)
  have b_run_firing : Binds K d_run_firing ["node", "memory", "rows"] [] := FunD.bindsN F_run_firing fun _ _ _ _ _ _ us hl => match us, hl with | [_, _, _], _ => rfl
  obtain ⟨d__law_cell, F__law_cell⟩ := c.def_ 7 (d := dfn "_law_cell" sCell) rfl
  have g__law_cell := He.glo_ok X G (c.fact 7 (f := .glo "_law_cell") rfl)
  have b__law_cell : Binds K d__law_cell ["_law_script", "_law_k"] [] := FunD.bindsN F__law_cell fun _ _ _ _ _ _ us hl => match us, hl with | [_, _], _ => rfl
  obtain ⟨d__law_pot, F__law_pot⟩ := c.def_ 8 (d := dfn "_law_pot" sPot) rfl
  have g__law_pot := He.glo_ok X G (c.fact 8 (f := .glo "_law_pot") rfl)
  have b__law_pot : Binds K d__law_pot ["_law_cell_here"] [] := FunD.bindsN F__law_pot fun _ _ _ _ _ _ us hl => match us, hl with | [_], _ => rfl
  obtain ⟨d__law_draw, F__law_draw⟩ := c.def_ 9 (d := dfn "_law_draw" sDraw) rfl
  have g__law_draw := He.glo_ok X G (c.fact 9 (f := .glo "_law_draw") rfl)
  have b__law_draw : Binds K d__law_draw ["_law_pot_here", "_law_many"] [] := FunD.bindsN F__law_draw fun _ _ _ _ _ _ us hl => match us, hl with | [_, _], _ => rfl
  obtain ⟨d__law_number, F__law_number⟩ := c.def_ 10 (d := dfn "_law_number" sNumber) rfl
  have g__law_number := He.glo_ok X G (c.fact 10 (f := .glo "_law_number") rfl)
  have b__law_number : Binds K d__law_number ["_law_pot_here"] [] := FunD.bindsN F__law_number fun _ _ _ _ _ _ us hl => match us, hl with | [_], _ => rfl
  obtain ⟨d__law_numbers, F__law_numbers⟩ := c.def_ 11 (d := dfn "_law_numbers" sNumbers) rfl
  have g__law_numbers := He.glo_ok X G (c.fact 11 (f := .glo "_law_numbers") rfl)
  have b__law_numbers : Binds K d__law_numbers ["_law_pot_here", "_law_most"] [] := FunD.bindsN F__law_numbers fun _ _ _ _ _ _ us hl => match us, hl with | [_, _], _ => rfl
  obtain ⟨d__law_counting, F__law_counting⟩ := c.def_ 12 (d := dfn "_law_counting" sCounting) rfl
  have g__law_counting := He.glo_ok X G (c.fact 12 (f := .glo "_law_counting") rfl)
  have b__law_counting : Binds K d__law_counting ["_law_pot_here"] [] := FunD.bindsN F__law_counting fun _ _ _ _ _ _ us hl => match us, hl with | [_], _ => rfl
  obtain ⟨d__law_taping, F__law_taping⟩ := c.def_ 13 (d := dfn "_law_taping" sTaping) rfl
  have g__law_taping := He.glo_ok X G (c.fact 13 (f := .glo "_law_taping") rfl)
  have b__law_taping : Binds K d__law_taping ["_law_pot_here"] [] := FunD.bindsN F__law_taping fun _ _ _ _ _ _ us hl => match us, hl with | [_], _ => rfl
  obtain ⟨d__law_due, F__law_due⟩ := c.def_ 14 (d := dfn "_law_due" sLDue) rfl
  have g__law_due := He.glo_ok X G (c.fact 14 (f := .glo "_law_due") rfl)
  have b__law_due : Binds K d__law_due ["_law_own", "_law_k"] [] := FunD.bindsN F__law_due fun _ _ _ _ _ _ us hl => match us, hl with | [_, _], _ => rfl
  obtain ⟨d__law_right, F__law_right⟩ := c.def_ 15 (d := dfn "_law_right" sLRight) rfl
  have g__law_right := He.glo_ok X G (c.fact 15 (f := .glo "_law_right") rfl)
  have b__law_right : Binds K d__law_right ["_law_pot_here", "_law_node", "_law_own"] [] := FunD.bindsN F__law_right fun _ _ _ _ _ _ us hl => match us, hl with | [_, _, _], _ => rfl
  obtain ⟨d_law, F_law⟩ := c.def_ 16 (d := dfn "law" sLaw) rfl
  have e := hfa.symm.trans (He.glo_ok X G (c.fact 16 (f := .glo "law") rfl))
  cases e
  have bL := FunD.bindsA (ps := ["_law_script"]) F_law fun _ _ _ _ _ _ us hl => match us, hl with | [_], _ => rfl
  obtain ⟨d_Node_DinitD, F_Node_DinitD⟩ := c.def_ 17 (d := (⟨("Node", some "__init__"), "__init__", "Node.__init__", defArgs sNodeInit, defBody sNodeInit, defScope sNodeInit, [], []⟩ : He.DefD)) rfl
  have b_Node_DinitD : Binds K d_Node_DinitD ["self", "arguments", "late", "begin"] [] := FunD.bindsN F_Node_DinitD fun _ _ _ _ _ _ us hl => match us, hl with | [_, _, _, _], _ => rfl
  obtain ⟨d_Count_DinitD, F_Count_DinitD⟩ := c.def_ 18 (d := (⟨("Count", some "__init__"), "__init__", "Count.__init__", defArgs sCountInit, defBody sCountInit, defScope sCountInit, [.int 0, .int 1, .int 0], [("late", .int 0), ("begin", .int 0)]⟩ : He.DefD)) rfl
  obtain ⟨d_Count_takes, F_Count_takes⟩ := c.def_ 19 (d := (⟨("Count", some "takes"), "takes", "Count.takes", defArgs sCountTakes, defBody sCountTakes, defScope sCountTakes, [], []⟩ : He.DefD)) rfl
  have b_Count_takes : Binds K d_Count_takes ["self"] [] := FunD.bindsN F_Count_takes fun _ _ _ _ _ _ us hl => match us, hl with | [_], _ => rfl
  obtain ⟨d_Count_gives, F_Count_gives⟩ := c.def_ 20 (d := (⟨("Count", some "gives"), "gives", "Count.gives", defArgs sCountGives, defBody sCountGives, defScope sCountGives, [], []⟩ : He.DefD)) rfl
  have b_Count_gives : Binds K d_Count_gives ["self"] [] := FunD.bindsN F_Count_gives fun _ _ _ _ _ _ us hl => match us, hl with | [_], _ => rfl
  obtain ⟨d_Count_fresh, F_Count_fresh⟩ := c.def_ 21 (d := (⟨("Count", some "fresh"), "fresh", "Count.fresh", defArgs sCountFresh, defBody sCountFresh, defScope sCountFresh, [], []⟩ : He.DefD)) rfl
  have b_Count_fresh : Binds K d_Count_fresh ["self"] [] := FunD.bindsN F_Count_fresh fun _ _ _ _ _ _ us hl => match us, hl with | [_], _ => rfl
  obtain ⟨d_Count_fire, F_Count_fire⟩ := c.def_ 22 (d := (⟨("Count", some "fire"), "fire", "Count.fire", defArgs sCountFire, defBody sCountFire, defScope sCountFire, [], []⟩ : He.DefD)) rfl
  have b_Count_fire : Binds K d_Count_fire ["self", "memory", "rows"] [] := FunD.bindsN F_Count_fire fun _ _ _ _ _ _ us hl => match us, hl with | [_, _, _], _ => rfl
  obtain ⟨d_Count_work, F_Count_work⟩ := c.def_ 23 (d := (⟨("Count", some "work"), "work", "Count.work", defArgs sCountWork, defBody sCountWork, defScope sCountWork, [], []⟩ : He.DefD)) rfl
  have b_Count_work : Binds K d_Count_work ["self", "kept", "rows"] [] := FunD.bindsN F_Count_work fun _ _ _ _ _ _ us hl => match us, hl with | [_, _, _], _ => rfl
  obtain ⟨d_Tape_DinitD, F_Tape_DinitD⟩ := c.def_ 24 (d := (⟨("Tape", some "__init__"), "__init__", "Tape.__init__", defArgs sTapeInit, defBody sTapeInit, defScope sTapeInit, [.bl false], [("late", .int 0), ("begin", .int 0)]⟩ : He.DefD)) rfl
  obtain ⟨d_Tape_takes, F_Tape_takes⟩ := c.def_ 25 (d := (⟨("Tape", some "takes"), "takes", "Tape.takes", defArgs sTapeTakes, defBody sTapeTakes, defScope sTapeTakes, [], []⟩ : He.DefD)) rfl
  have b_Tape_takes : Binds K d_Tape_takes ["self"] [] := FunD.bindsN F_Tape_takes fun _ _ _ _ _ _ us hl => match us, hl with | [_], _ => rfl
  obtain ⟨d_Tape_gives, F_Tape_gives⟩ := c.def_ 26 (d := (⟨("Tape", some "gives"), "gives", "Tape.gives", defArgs sTapeGives, defBody sTapeGives, defScope sTapeGives, [], []⟩ : He.DefD)) rfl
  have b_Tape_gives : Binds K d_Tape_gives ["self"] [] := FunD.bindsN F_Tape_gives fun _ _ _ _ _ _ us hl => match us, hl with | [_], _ => rfl
  obtain ⟨d_Tape_fresh, F_Tape_fresh⟩ := c.def_ 27 (d := (⟨("Tape", some "fresh"), "fresh", "Tape.fresh", defArgs sTapeFresh, defBody sTapeFresh, defScope sTapeFresh, [], []⟩ : He.DefD)) rfl
  have b_Tape_fresh : Binds K d_Tape_fresh ["self"] [] := FunD.bindsN F_Tape_fresh fun _ _ _ _ _ _ us hl => match us, hl with | [_], _ => rfl
  obtain ⟨d_Tape_fire, F_Tape_fire⟩ := c.def_ 28 (d := (⟨("Tape", some "fire"), "fire", "Tape.fire", defArgs sTapeFire, defBody sTapeFire, defScope sTapeFire, [], []⟩ : He.DefD)) rfl
  have b_Tape_fire : Binds K d_Tape_fire ["self", "memory", "rows"] [] := FunD.bindsN F_Tape_fire fun _ _ _ _ _ _ us hl => match us, hl with | [_, _, _], _ => rfl
  obtain ⟨d_Tape_work, F_Tape_work⟩ := c.def_ 29 (d := (⟨("Tape", some "work"), "work", "Tape.work", defArgs sTapeWork, defBody sTapeWork, defScope sTapeWork, [], []⟩ : He.DefD)) rfl
  have b_Tape_work : Binds K d_Tape_work ["self", "kept", "rows"] [] := FunD.bindsN F_Tape_work fun _ _ _ _ _ _ us hl => match us, hl with | [_, _, _], _ => rfl
  have z_len := He.free_ok X G (c.fact 17 (f := .free "len") rfl)
  have z_max := He.free_ok X G (c.fact 18 (f := .free "max") rfl)
  have z_min := He.free_ok X G (c.fact 19 (f := .free "min") rfl)
  have z_range := He.free_ok X G (c.fact 20 (f := .free "range") rfl)
  have z_isinstance := He.free_ok X G (c.fact 21 (f := .free "isinstance") rfl)
  have z_int := He.free_ok X G (c.fact 22 (f := .free "int") rfl)
  have z_bool := He.free_ok X G (c.fact 23 (f := .free "bool") rfl)
  have z_list := He.free_ok X G (c.fact 24 (f := .free "list") rfl)
  have z_repr := He.free_ok X G (c.fact 25 (f := .free "repr") rfl)
  have z_all := He.free_ok X G (c.fact 26 (f := .free "all") rfl)
  have z_abs := He.free_ok X G (c.fact 27 (f := .free "abs") rfl)
  have z_MOST_LATE := He.int_ok X G (c.fact 28 (f := .int "MOST_LATE" 99) rfl)
  have z_MOST_BEGIN := He.int_ok X G (c.fact 29 (f := .int "MOST_BEGIN" 9999) rfl)
  have z_MOST_TAPED := He.int_ok X G (c.fact 30 (f := .int "MOST_TAPED" 60) rfl)
  have G_Node := He.glo_ok X G (c.fact 31 (f := .glo "Node") rfl)
  have G_Count := He.glo_ok X G (c.fact 32 (f := .glo "Count") rfl)
  have G_Tape := He.glo_ok X G (c.fact 33 (f := .glo "Tape") rfl)
  have c_Count := He.cls_ok (c.fact 34 (f := .cls "Count") rfl)
  have n_Count_made := He.noat_ok (c.fact 35 (f := .noat "Count" "made") rfl)
  have n_Count_late_by := He.noat_ok (c.fact 36 (f := .noat "Count" "late_by") rfl)
  have n_Count_begin_at := He.noat_ok (c.fact 37 (f := .noat "Count" "begin_at") rfl)
  have n_Count_first := He.noat_ok (c.fact 38 (f := .noat "Count" "first") rfl)
  have n_Count_step := He.noat_ok (c.fact 39 (f := .noat "Count" "step") rfl)
  have n_Count_size := He.noat_ok (c.fact 40 (f := .noat "Count" "size") rfl)
  have mk_Count := He.mkr_ok (c.fact 41 (f := .mkr "Count") rfl)
  have m_Count_takes := He.meth_ok (c.fact 42 (f := .meth "Count" "takes") rfl)
  have m_Count_gives := He.meth_ok (c.fact 43 (f := .meth "Count" "gives") rfl)
  have m_Count_fresh := He.meth_ok (c.fact 44 (f := .meth "Count" "fresh") rfl)
  have m_Count_fire := He.meth_ok (c.fact 45 (f := .meth "Count" "fire") rfl)
  have m_Count_work := He.meth_ok (c.fact 46 (f := .meth "Count" "work") rfl)
  have c_Tape := He.cls_ok (c.fact 47 (f := .cls "Tape") rfl)
  have n_Tape_made := He.noat_ok (c.fact 48 (f := .noat "Tape" "made") rfl)
  have n_Tape_late_by := He.noat_ok (c.fact 49 (f := .noat "Tape" "late_by") rfl)
  have n_Tape_begin_at := He.noat_ok (c.fact 50 (f := .noat "Tape" "begin_at") rfl)
  have n_Tape_numbers := He.noat_ok (c.fact 51 (f := .noat "Tape" "numbers") rfl)
  have n_Tape_again := He.noat_ok (c.fact 52 (f := .noat "Tape" "again") rfl)
  have mk_Tape := He.mkr_ok (c.fact 53 (f := .mkr "Tape") rfl)
  have m_Tape_takes := He.meth_ok (c.fact 54 (f := .meth "Tape" "takes") rfl)
  have m_Tape_gives := He.meth_ok (c.fact 55 (f := .meth "Tape" "gives") rfl)
  have m_Tape_fresh := He.meth_ok (c.fact 56 (f := .meth "Tape" "fresh") rfl)
  have m_Tape_fire := He.meth_ok (c.fact 57 (f := .meth "Tape" "fire") rfl)
  have m_Tape_work := He.meth_ok (c.fact 58 (f := .meth "Tape" "work") rfl)
  obtain ⟨ds0, v0, b0⟩ := FunD.binds (ps := ["self", "first", "step", "size", "late", "begin"]) F_Count_DinitD 1 0 (by intro z; cases z) rfl (by
      intro T D doc pm an cdv ct us its ks l1 l2 l3
      match us, its, ks, l1, l2, l3 with
      | [_], [_, _, _], [_, _], _, _, _ => exact ⟨_, rfl, _, _, _, _, _, _, rfl, rfl, _, _, _, _, _, _, rfl, rfl, rfl⟩) (by intro z; cases z)
  obtain ⟨ds1, v1, b1⟩ := FunD.binds (ps := ["self", "first", "step", "size", "late", "begin"]) F_Count_DinitD 2 1 (by intro z; cases z) rfl (by
      intro T D doc pm an cdv ct us its ks l1 l2 l3
      match us, its, ks, l1, l2, l3 with
      | [_, _], [_, _, _], [_, _], _, _, _ => exact ⟨_, rfl, _, _, _, _, _, _, rfl, rfl, _, _, _, _, _, _, rfl, rfl, rfl⟩) (by intro z; cases z)
  obtain ⟨ds3, v3, b3⟩ := FunD.binds (ps := ["self", "first", "step", "size", "late", "begin"]) F_Count_DinitD 4 3 (by intro z; cases z) rfl (by
      intro T D doc pm an cdv ct us its ks l1 l2 l3
      match us, its, ks, l1, l2, l3 with
      | [_, _, _, _], [_, _, _], [_, _], _, _, _ => exact ⟨_, rfl, _, _, _, _, _, _, rfl, rfl, _, _, _, _, _, _, rfl, rfl, rfl⟩) (by intro z; cases z)
  obtain ⟨ds4, v4, b4⟩ := FunD.binds (ps := ["self", "numbers", "again", "late", "begin"]) F_Tape_DinitD 2 0 (by intro z; cases z) rfl (by
      intro T D doc pm an cdv ct us its ks l1 l2 l3
      match us, its, ks, l1, l2, l3 with
      | [_, _], [_], [_, _], _, _, _ => exact ⟨_, rfl, _, _, _, _, _, _, rfl, rfl, _, _, _, _, _, _, rfl, rfl, rfl⟩) (by intro z; cases z)
  obtain ⟨ds5, v5, b5⟩ := FunD.binds (ps := ["self", "numbers", "again", "late", "begin"]) F_Tape_DinitD 3 1 (by intro z; cases z) rfl (by
      intro T D doc pm an cdv ct us its ks l1 l2 l3
      match us, its, ks, l1, l2, l3 with
      | [_, _, _], [_], [_, _], _, _, _ => exact ⟨_, rfl, _, _, _, _, _, _, rfl, rfl, _, _, _, _, _, _, rfl, rfl, rfl⟩) (by intro z; cases z)
  obtain ⟨its6, mv6, kb6⟩ := FunD.kbinds (ps := ["self", "first", "step", "size", "late", "begin"]) F_Count_DinitD 1 ["size", "step"] [("late", .int 0), ("begin", .int 0)] (fun us its mv ws => us ++ (its.take 1 ++ (ws.drop 1 ++ (ws.take 1 ++ mv)))) (by intro z; cases z) (by intro z; cases z) (fun _ h => h)
      (fun r1 r2 r3 r4 => r1.append ((vals_take1 r2).append ((r4.drop 1).append ((vals_take1 r4).append r3)))) (by
      intro T D doc pm an cdv ct us its mv ws l1 l2 l3 l4
      match us, its, mv, ws, l1, l2, l3, l4 with
      | [_], [_, _, _], [_, _], [_, _], _, _, _, _ => exact ⟨_, rfl, _, _, _, _, _, _, rfl, rfl, _, _, _, _, _, _, rfl, rfl, rfl⟩)
  obtain ⟨its7, mv7, kb7⟩ := FunD.kbinds (ps := ["self", "numbers", "again", "late", "begin"]) F_Tape_DinitD 1 ["again", "numbers"] [("late", .int 0), ("begin", .int 0)] (fun us its mv ws => us ++ (ws.drop 1 ++ (ws.take 1 ++ mv))) (by intro z; cases z) (by intro z; cases z) (fun _ h => h)
      (fun r1 r2 r3 r4 => r1.append ((r4.drop 1).append ((vals_take1 r4).append r3))) (by
      intro T D doc pm an cdv ct us its mv ws l1 l2 l3 l4
      match us, its, mv, ws, l1, l2, l3, l4 with
      | [_], [_], [_, _], [_, _], _, _, _, _ => exact ⟨_, rfl, _, _, _, _, _, _, rfl, rfl, _, _, _, _, _, _, rfl, rfl, rfl⟩)
  refine ⟨d_law, fun s v => bL s [v] rfl, fun base _ _ => ?_⟩
  have TC : CountC K (He.ga K "Count") := ⟨⟨c_Count, n_Count_made, n_Count_late_by, n_Count_begin_at⟩, n_Count_first, n_Count_step, n_Count_size⟩
  have TT : TapeC K (He.ga K "Tape") := ⟨⟨c_Tape, n_Tape_made, n_Tape_late_by, n_Tape_begin_at⟩, n_Tape_numbers, n_Tape_again⟩
  have G0 : FnOk P w K mg base CX0 1 _ d_is_whole ["thing"] (spWhole K) := ok_whole F_is_whole z_isinstance z_int z_bool
  have G1 : FnOk P w K mg base CX0 2 _ d_is_whole_within ["thing", "least", "most"] (spWithin K) := ok_within F_is_whole_within G0 g_is_whole F_is_whole.kp b_is_whole
  have G2 : FnOk P w K mg base CX0 1 _ d_need ["holds", "field"] spNeed := ok_need F_need
  have G3 : FnOk P w K mg base CX0 2 _ d_are_wholes ["things"] (spWholes K) := ok_wholes F_are_wholes G0 g_is_whole F_is_whole.kp b_is_whole z_all
  have G4 : FnOk P w K mg base CX0 3 _ d_is_list_of_wholes ["thing", "least", "most"] (spListOf K) := ok_listOf F_is_list_of_wholes G3 g_are_wholes F_are_wholes.kp b_are_wholes z_isinstance z_list z_len
  have G5 : FnOk P w K mg base CX0 1 _ d_is_truth ["thing"] spTruth := ok_truth F_is_truth
  have G7 : FnOk P w K mg base CX0 1 _ d__law_draw ["_law_pot_here", "_law_many"] spDraw := ok_draw F__law_draw
  have G8 : FnOk P w K mg base CX0 2 _ d__law_number ["_law_pot_here"] spNumber := ok_number F__law_number F__law_draw g__law_draw z_range
  have G9 : FnOk P w K mg base CX0 3 _ d__law_numbers ["_law_pot_here", "_law_most"] spNumbers := ok_numbers F__law_numbers G7 g__law_draw F__law_draw.kp b__law_draw G8 g__law_number F__law_number.kp b__law_number z_range
  have GI := ok_countInit (P := P) (w := w) (mg := mg) (base := base) F_Count_DinitD G2 g_need F_need.kp b_need G0 g_is_whole F_is_whole.kp b_is_whole (ok_nodeInit F_Node_DinitD G2 g_need F_need.kp b_need G1 g_is_whole_within F_is_whole_within.kp b_is_whole_within z_MOST_LATE z_MOST_BEGIN TC.n) G_Node (baseB_ok cx) b_Node_DinitD TC
  have GJ := ok_tapeInit (P := P) (w := w) (mg := mg) (base := base) F_Tape_DinitD G2 g_need F_need.kp b_need G4 g_is_list_of_wholes F_is_list_of_wholes.kp b_is_list_of_wholes G5 g_is_truth F_is_truth.kp b_is_truth (ok_nodeInit F_Node_DinitD G2 g_need F_need.kp b_need G1 g_is_whole_within F_is_whole_within.kp b_is_whole_within z_MOST_LATE z_MOST_BEGIN TT.n) G_Node (baseB_ok cx) b_Node_DinitD z_MOST_TAPED z_list TT
  have GA : FnOk P w K mg base CX0 6 _ d__law_counting ["_law_pot_here"] (spMakes K (He.ga K "Count") (He.ga K "Tape")) := ok_counting F__law_counting mk_Count GI G_Count b0 v0 b1 v1 b3 v3 kb6 G7 g__law_draw F__law_draw.kp b__law_draw G8 g__law_number F__law_number.kp b__law_number z_abs
  have GB : FnOk P w K mg base CX0 6 _ d__law_taping ["_law_pot_here"] (spMakes K (He.ga K "Count") (He.ga K "Tape")) := ok_taping F__law_taping mk_Tape GJ G_Tape b4 v4 b5 v5 kb7 G7 g__law_draw F__law_draw.kp b__law_draw G9 g__law_numbers F__law_numbers.kp b__law_numbers z_list
  have W1 : FnOk P w K mg base CX0 1 _ d_Count_work ["self", "kept", "rows"] (spCountWork K (He.ga K "Count")) := ok_countWork F_Count_work TC
  have W2 : FnOk P w K mg base CX0 1 _ d_Tape_work ["self", "kept", "rows"] (spTapeWork K (He.ga K "Tape")) := ok_tapeWork F_Tape_work TT z_len
  have R1 : FnOk P w K mg base CX0 2 _ d_run_firing ["node", "memory", "rows"] (spFiring K (He.ga K "Count") (spCountWork K (He.ga K "Count"))) := ok_firing (k := 0) F_run_firing c_Count (ok_countGives (sp := spGives1 (He.ga K "Count")) (fun vs H Q E h => by obtain ⟨p, dx, fs, e, _, q⟩ := h; exact ⟨by rw [e]; rfl, q⟩) F_Count_gives) m_Count_gives b_Count_gives W1 m_Count_work b_Count_work wide_countWork
  have R2 : FnOk P w K mg base CX0 2 _ d_run_firing ["node", "memory", "rows"] (spFiring K (He.ga K "Tape") (spTapeWork K (He.ga K "Tape"))) := ok_firing (k := 0) F_run_firing c_Tape (ok_tapeGives (sp := spGives1 (He.ga K "Tape")) (fun vs H Q E h => by obtain ⟨p, dx, fs, e, _, q⟩ := h; exact ⟨by rw [e]; rfl, q⟩) F_Tape_gives) m_Tape_gives b_Tape_gives W2 m_Tape_work b_Tape_work wide_tapeWork
  have H1 : FnG P w K mg base CX0 6 _ d__law_right ["_law_pot_here", "_law_node", "_law_own"] (spMRight (countM K (He.ga K "Count"))) := ok_lRight (countM K (He.ga K "Count")) F__law_right c_Count (ok_countTakes _ F_Count_takes) m_Count_takes b_Count_takes (ok_countGives (fun vs H Q E h => by obtain ⟨i, p, e, _, q⟩ := h; exact ⟨by rw [e]; rfl, q⟩) F_Count_gives) m_Count_gives b_Count_gives (ok_countFresh F_Count_fresh TC) m_Count_fresh b_Count_fresh (ok_countFire F_Count_fire R1 g_run_firing F_run_firing.kp b_run_firing) m_Count_fire b_Count_fire (ok_dueCount F__law_due z_len z_range) g__law_due F__law_due.kp b__law_due G7 g__law_draw F__law_draw.kp b__law_draw G8 g__law_number F__law_number.kp b__law_number z_range z_repr
  have H2 : FnG P w K mg base CX0 6 _ d__law_right ["_law_pot_here", "_law_node", "_law_own"] (spMRight (tapeM K (He.ga K "Tape"))) := ok_lRight (tapeM K (He.ga K "Tape")) F__law_right c_Tape (ok_tapeTakes _ F_Tape_takes) m_Tape_takes b_Tape_takes (ok_tapeGives (fun vs H Q E h => by obtain ⟨i, p, e, _, q⟩ := h; exact ⟨by rw [e]; rfl, q⟩) F_Tape_gives) m_Tape_gives b_Tape_gives (ok_tapeFresh F_Tape_fresh TT) m_Tape_fresh b_Tape_fresh (ok_tapeFire F_Tape_fire R2 g_run_firing F_run_firing.kp b_run_firing) m_Tape_fire b_Tape_fire (ok_dueTape F__law_due z_len z_range) g__law_due F__law_due.kp b__law_due G7 g__law_draw F__law_draw.kp b__law_draw G8 g__law_number F__law_number.kp b__law_number z_range z_repr
  exact ok_law F_law (ok_cell F__law_cell z_len) g__law_cell F__law_cell.kp b__law_cell (ok_pot F__law_pot z_max) g__law_pot F__law_pot.kp b__law_pot G7 g__law_draw F__law_draw.kp b__law_draw GA g__law_counting F__law_counting.kp b__law_counting GB g__law_taping F__law_taping.kp b__law_taping (H1.or H2) g__law_right F__law_right.kp b__law_right z_range z_max z_min z_len
end Sw
open PySem PySem.W PySem.Calls PyProof.Rows
theorem PySem.Challenge.cw_sampleweave_k15_counts_and_tapes_holds : PySem.Challenge.rw_sampleweave_k15_counts_and_tapes.Holds := by
  w_on; o_law
  refine HandSHeadRun.head_any (r := OpenLaw.row PySem.Challenge.rw_sampleweave_k15_counts_and_tapes) (q := view (OpenLaw.row PySem.Challenge.rw_sampleweave_k15_counts_and_tapes).prog [31]) (H := Sw.hk) (ob := Sw.ob) (M := 9000) (loose := Sw.loose) (d := HandSHeadRun.topDef (OpenLaw.row PySem.Challenge.rw_sampleweave_k15_counts_and_tapes).prog 31) (kwd := []) Sw.ob_eq
    (by kernel_rfl) (fun s => by kernel_rfl) Sw.run (by kernel_rfl) (by kernel_rfl) (by kernel_rfl) (by rfl) (by first | assumption | decide +kernel) (by decide +kernel) ⟨rfl, rfl, rfl, rfl, rfl, by decide +kernel⟩ ?hw ?hc
  case hw => w_witness2
  case hc =>
    refine L2.walk_goes (l := PySem.Challenge.rw_sampleweave_k15_counts_and_tapes) (n := 63) (k := 8) (x := "_law_script") (CX := L2.CX0) rfl (by decide) (by kernel_rfl) ⟨rfl, by decide, by decide⟩ ?F (fun _ _ _ _ z => z)
    intro w mg fa h Y G hmg0
    obtain ⟨K, KX, cx, c⟩ := Y
    have hmg : mg ("law" : PySem.Str) = some (.ref fa) := by
      have e : (HandSHeadRun.topDef (OpenLaw.row PySem.Challenge.rw_sampleweave_k15_counts_and_tapes).prog 31).name = ("law" : PySem.Str) := by kernel_rfl
      rw [← e]
      exact hmg0
    obtain ⟨fd, hb, hF⟩ := Sw.facts (P := (PySem.Challenge.rw_sampleweave_k15_counts_and_tapes).prog) (w := w) KX G hmg cx c
    exact ⟨K, fd, Sw.spLaw K, KX, hb, fun H a ns hl _ hS => ⟨a, ns, rfl, hS, hl, fun _ => rfl⟩, hF⟩
