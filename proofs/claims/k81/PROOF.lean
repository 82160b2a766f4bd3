import PyProof.Rows.All
import Wide.All
import OpenK.AllK
import Wide.FinOn
import KE.KStateDown
import Lean
import HandS.Base
import HandS.Call
import HandS.List
import HandS.Comp
import HandS.Ends
import HandS.Dict
import HandS.Iter
import HandS.Exc
import HandS.TryOnly
import HandS.ExcOwn
import HandS.Words
import HandS.WordsList
import HandS.WordsDict
import HandS.WordsExc
import HandS.Wide
import HandS.IsInst
import HandS.ExcIs
import HandS.Defaults
import HandS.More
import HandS.Star
import HandS.ClsMeth
import HandS.MakeKw
import HandS.MakeKwOnly
import HandS.Conv
import HandS.TupMul
import HandS.TupLe
import HandS.Flow
import HandS.Zip
import HandS.CallLocal
import HandS.Head0
import HandS.Head1
import HandS.Head2
import HandS.HeadEnd
import HandS.HeadHook1
import HandS.HeadHook2
import PyProof.ReprLen
import HandS.Walk
import HandS.TupAny
import HandS.Style
import HandS.Codes
import PySem.Challenge.RW_sampleweave_k81_polynomials
set_option Elab.async false
set_option linter.all false
set_option maxRecDepth 100000
set_option maxHeartbeats 0
namespace L2
open PySem PySem.Spec PyProof.Rows
/-! ## Own words, 1: defs that are called where no repr is under way -/
/-- as FnOk, but called only while no guard (a repr under way) is around -/
structure FnG (P : Program) (w : World) (K : PySem.W.Frag) (mg : Str → Option Value) (base : Heap) (CX : CXT) (k : Nat) (f : Addr) (fd : FuncData) (ps : List Str) (sp : Sp) : Prop where
  size : ∀ vs H Q E, sp vs H Q E → vs.length = ps.length
  goes : ∀ (A : Around) (outer : List Env) (s : Shared) (H : Hp) (args : Args) (us : List Value) (vs : List V) (Q : VK) (E : XK), Room k A → A.guards = some [] → Env0 P w K mg base A outer s H →
    BindsTo s fd args (ps.zip us) → Vals vs us → sp vs H Q E → codeAny (model P w) A (.call (.ref f) args) (CR CX outer P w H s Q E) s
section
variable {P : Program} {w : World} {K : PySem.W.Frag} {mg : Str → Option Value} {base : Heap} {CX : CXT} {k : Nat} {f : Addr} {fd : FuncData} {ps N : List Str} {sp : Sp} {x qual : Str} {params : Arguments} {body : List Stmt} {scope : Scope} {dvs : List V} {kws : List (Str × V)}
/-- a def's body, where the guards are known -/
theorem FunD.okG (F : FunD K x qual params body scope dvs kws f fd) (S : FnScope N ps scope) (size : ∀ vs H Q E, sp vs H Q E → vs.length = ps.length)
    (does : ∀ (cdv : Value) (A : Around) (outer : List Env) (s : Shared) (H : Hp) (vs : List V) (Q : VK) (E : XK), Room k (A.deeper (envOfC qual scope s.heap.objs.size f cdv)) → A.guards = some [] → sp vs H Q E →
      ∃ t, PSs (cxOf CX P w K mg base N qual scope f cdv A outer s H E) body t ∧ t { nx := fun _ H' => Q .non H', rt := Q } (start N vs) H) : FnG P w K mg base CX (k + 1) f fd ps sp := by
  obtain ⟨oc, od, dV, kV, doc, pm, an, cdv, ct, osl, rfl, lk, hcd, _, _⟩ := F.ex
  refine ⟨size, fun A outer s H args us vs Q E room guard env bind rel prom => ?_⟩
  have only : StX.Bnd CX P w K mg base (PySem.W.fnOf x qual params body scope dV kV doc pm an cdv ct) args ps A outer s H E (fun vs' H' => vs' = vs ∧ H' = H) :=
    fun A' Ex Q' h' => bind _ _ _ _ (h' s H vs us env Un.refl rfl (fun _ _ z => z) rel (size _ _ _ _ prom) ⟨rfl, rfl⟩)
  refine StX.run_bnd (k := k) lk hcd S room env only fun s2 H2 vs2 same room2 => ?_
  obtain ⟨rfl, rfl⟩ := same
  exact does cdv A outer s2 H2 vs2 Q E room2 guard prom
/-- a plain def is one of these too -/
theorem FnOk.toG (F : FnOk P w K mg base CX k f fd ps sp) : FnG P w K mg base CX k f fd ps sp := ⟨F.len, fun A outer s H args us vs Q E room _ env bind rel prom => F.run A outer s H args us vs Q E room env bind rel prom⟩
end
section
variable {X : Cx} {CX : CXT} {k i : Nat} {f : Addr} {fd : FuncData} {ps : List Str} {sp : Sp} {dvs : List V} {ds : List Value} {E : XK} {x : Str} {p pos : Pos} {e : Expr} {es : List Expr} {t : TA}
theorem goes_fn {pins : List (Addr × Obj)} {σ : St} {H : Hp} {s : Shared} {Q : VK} {us : List Value} {vs : List V} (F : FnG X.prog X.w X.K X.mg X.base CX k f fd ps sp) (room : Room k X.A) (guard : X.A.guards = some []) (hb : Binds X.K fd ps ds) (hd : Vals dvs ds)
    (hx : Passes CX X E) (I : Inv X pins σ H s) (rel : Vals vs us) (prom : sp (vs ++ dvs) H Q E) : wpAny (model X.prog X.w) X.A (call (.ref f) us) (EP X pins σ Q) X.xe s := by
  have both := rel.append hd
  have many : (us ++ ds).length = ps.length := both.length.symm.trans (F.size _ _ _ _ prom)
  refine wpAny_call (codeAny_mono (F.goes X.A X.stack s H ⟨us, []⟩ (us ++ ds) (vs ++ dvs) Q E room guard I.env0 (hb s us I.kIn many) both prom) ?_)
  rintro (_ | u | _ | _ | _ ) s' z
  all_goals first
    | exact hx pins σ H s _ s' I z
    | exact I.after z
    | exact z.elim
theorem pe_callG (F : FnG X.prog X.w X.K X.mg X.base CX k f fd ps sp) (room : Room k X.A) (guard : X.A.guards = some []) (hg : Gl X x) (hm : X.mg x = some (.ref f)) (hk : PySem.W.keepIn X.K (.ref f) = true) (hb : Binds X.K fd ps ds) (hd : Vals dvs ds)
    (hx : Passes CX X E) (ha : PA X (e :: es) t) (hdb : (x == ("__debug__" : Str)) = false := by decide) (he : starEach (e :: es) X.env = (false, eval e X.env) :: starEach es X.env := by rfl)
    (hpl : (backTo pos (starEach es X.env)).any (·.1) = false := by rfl) : PE X (.Call (.Name x p) (e :: es) [] pos) (tCall sp dvs E t) := by
  refine ⟨fun pins s σ H Q I h => wpAny_Call_Name_kw (ld_glob I hg hm ?_ hdb)⟩
  exact PySem.W.callWith_K (h₀ := X.base) I.ok.mod.kin hk (thn (ha.run pos pins s σ H _ I h) fun us s1 ⟨vs, H1, I1, r, q⟩ => ⟨I1.kIn, goes_fn F room guard hb hd hx I1 r q⟩) he hpl
end
/-- the law's call, its def being one of these -/
theorem law_goes {P : Program} {w : World} {K : PySem.W.Frag} {mg mb : Str → Option Value} {CX : CXT} {k : Nat} {fa a : Addr} {fd : FuncData} {x : Str} {sp : Sp} {s₁ : Shared} {vs : List Value} {ns : List Int}
    (inK : K.In s₁.heap) (glob : s₁.heap.Ns mainGlobals mg) (blt : s₁.heap.Ns builtinsNs mb) (boot : ∀ x : Str, x ≠ "__name__" → mb x = bootBuiltins x) (lim : s₁.heap.NoLimit) (gens : s₁.gens = #[])
    (scr : s₁.heap.get? a = some { cls := .type "list", data := .seq vs.toArray }) (nums : IntsAre vs ns) (few : ns.length ≤ sizeLine) (room : Room k callerA)
    (F : ∀ base : Heap, K.In base → base.Ns mainGlobals mg → FnG P w K mg base CX k fa fd [x] sp) (bind : ∀ (s : Shared) (u : Value), BindsTo s fd ⟨[u], []⟩ [(x, u)])
    (prom : ∀ H : Hp, Only H → SqL K H a (ns.map V.int) → sp [.ref a] H (fun v _ => v = .bl true) fun _ _ _ => False) (none_out : ∀ H e s', CX [] H s₁ (fun _ _ _ => False) e s' → False) :
    codeAny (model P w) callerA (.call (.ref fa) ⟨[.ref a], []⟩) (fun r s' => r = .ok (.ret (.bool true)) ∧ OldK s₁.heap s'.heap ∧ s'.os = s₁.os ∧ AllBare s'.gens) s₁ := by
  have rel := vals_ints nums
  have from_heap : ∀ H : Hp, (∀ b, H b = none ∨ (b = a ∧ K.lookup a = none ∧ H b = some (.frz { cls := .type "list", data := .seq vs.toArray } (.lst (ns.map V.int))))) → SqL K H a (ns.map V.int) →
      codeAny (model P w) callerA (.call (.ref fa) ⟨[.ref a], []⟩) (fun r s' => r = .ok (.ret (.bool true)) ∧ OldK s₁.heap s'.heap ∧ s'.os = s₁.os ∧ AllBare s'.gens) s₁ := by
    intro H which seen
    have small : Only H := fun b => (which b).imp id fun z => ⟨_, _, z.2.2⟩
    have space : ∀ {b : Addr} {m : Str → Option Value}, s₁.heap.Ns b m → (hidT s₁.heap H).Ns b m := by
      rintro b m ⟨o, es, ep, e, d, r⟩
      refine ⟨o, es, ep, hidT_get e ((which b).resolve_right fun ⟨eb, _⟩ => ?_), d, r⟩
      rw [eb, scr] at e
      cases e
      cases d
    have written : K.In (hidT s₁.heap H) := fun b o e => hidT_get (inK b o e) ((which b).resolve_right fun ⟨eb, n, _⟩ => by
      rw [eb, n] at e
      cases e)
    have fits : HOk P w H s₁.heap := fun b u z => by
      rcases which b with n | ⟨rfl, _, n⟩
      · rw [n] at z
        cases z
      · rw [n] at z
        cases z
        exact ⟨scr, by rw [List.length_map]; exact few, vs, _, rel, scr⟩
    obtain ⟨mc, c1, c2⟩ := lim
    have env : Env0 P w K mg (hidT s₁.heap H) callerA [] s₁ H :=
      ⟨rfl, ⟨written, space glob, ⟨mb, space blt, boot⟩, mc, space c1, c2⟩, fun _ _ e => of_hidT e, Nat.le_of_eq (hidT_size _ _), trivial, fun _ z => (List.not_mem_nil z).elim, fits, .of_eq gens⟩
    refine codeAny_mono ((F _ written (space glob)).goes callerA [] s₁ H ⟨[.ref a], []⟩ [.ref a] [.ref a] _ _ room rfl env (bind s₁ (.ref a)) (.cons rfl .nil) (prom H small seen)) ?_
    intro res s' z
    match res, z with
    | .error e, z => exact (none_out H e s' z).elim
    | .ok .next, z => exact z.elim
    | .ok .brk, z => exact z.elim
    | .ok .cont, z => exact z.elim
    | .ok (.ret u), z =>
      obtain ⟨v, H', os, bare, un, fits', rv, (rfl : v = V.bl true)⟩ := z
      obtain rfl : u = Value.bool true := rv
      refine ⟨rfl, OldK.of_keep fun b o e => ?_, os, bare⟩
      rcases which b with n | ⟨_, _, n⟩
      · exact un.keep b o e n (fun z => (List.not_mem_nil z).elim) List.not_mem_nil
      · obtain ⟨e1, _⟩ := fits b _ n
        obtain ⟨e2, _⟩ := fits' b _ (un.frzs b _ _ n)
        rw [e] at e1
        cases e1
        exact e2
  by_cases own : K.lookup a = none
  · refine from_heap (fun b => if b = a then some (.frz { cls := .type "list", data := .seq vs.toArray } (.lst (ns.map V.int))) else none) (fun b => ?_) (.inl (.inr ⟨_, if_pos rfl⟩))
    by_cases eb : b = a
    · exact .inr ⟨eb, own, if_pos eb⟩
    · exact .inl (if_neg eb)
  · obtain ⟨o, own⟩ := Option.ne_none_iff_exists'.mp own
    have e := inK a o own
    rw [scr] at e
    cases e
    exact from_heap (fun _ => none) (fun _ => .inl rfl) (.inr ⟨_, vs.toArray, _, own, rfl, rfl, rfl, by rw [List.size_toArray, nums.length]; exact few, by simpa using rel⟩)
theorem walk_goes {l : PySem.W.OpenLaw} {n k : Nat} {q : Program} {loose : List Str} {XP : (Str → Option Value) → Heap → Prop} {YP : World → Heap → Prop} {d : DefRec} {CX : CXT} {x : Str}
    (most : l.most = some n) (few : n ≤ sizeLine) (nodef : d.params.defaults = []) (room : Room k callerA)
    (F : ∀ (w : World) (mg : Str → Option Value) (fa : Addr) (h : Heap), YP w h → h.Ns mainGlobals mg → mg d.name = some (.ref fa) →
      ∃ (K : PySem.W.Frag) (fd : FuncData) (sp : Sp), K.In h ∧ (∀ (s : Shared) (u : Value), BindsTo s fd ⟨[u], []⟩ [(x, u)]) ∧
        (∀ (H : Hp) (a : Addr) (ns : List Int), ns.length ≤ n → Only H → SqL K H a (ns.map V.int) → sp [.ref a] H (fun v _ => v = .bl true) fun _ _ _ => False) ∧
        ∀ base : Heap, K.In base → base.Ns mainGlobals mg → FnG l.prog w K mg base CX k fa fd [x] sp)
    (none_out : ∀ (H : Hp) (s : Shared) (e : Value) (s' : Shared), CX [] H s (fun _ _ _ => False) e s' → False) : PySem.W.WalkO q loose XP YP l.row.toRowW d [] (fun f vs => PySem.call f vs) := by
  refine Att.attach_call most nodef ?_
  intro w s₀ s₁ mg mb fa o pm cd doc a vs ns G Y ho hd hcd named obj nums len gens
  obtain ⟨K, fd, sp, inK, bind, prom, does⟩ := F w mg fa _ Y G.T.g named
  exact law_goes inK G.T.g G.T.b G.T.builtins G.T.nolimit gens obj nums (Nat.le_trans len few) room does bind (fun H hO hS => prom H a ns len hO hS) fun H e s' => none_out H s₁ e s'
end L2
namespace L2
open PySem PySem.Spec PyProof.Rows
/-! ## Own words, 2: repr of data; a base class's def called by the class's name -/
section
variable {X : Cx}
/-- repr(x), x a list or a tuple of data -/
def rReprD (K : PySem.W.Frag) : List V → Hp → VK → Prop := fun xs H Q => ∃ (a : Addr) (d : PyData) (S : Str), xs = [.ref a] ∧ Dp K H (.ref a) d ∧ SeqAt.shaped d = true ∧ d.showable = true ∧ d.shown.length ≤ sizeLine ∧ d.shown = S ∧ Q (.str S) H
theorem call_reprD (guard : X.A.guards = some []) (units : X.A.units + 66 < cLine) : CallR X (.builtin "repr") (rReprD X.K) := by
  intro pins s σ H xs us Q I r h
  obtain ⟨a, d, S, rfl, dp, sh, sw, sz, rfl, q⟩ := h
  obtain ⟨u, rfl, ru⟩ := vals1 r
  obtain rfl : u = Value.ref a := ru
  obtain ⟨as, rd⟩ := Dp.reads I d _ _ dp rfl
  have dep := SeqAt.depth_of_shaped sh
  exact repr_of_reads' rd sw (PyData.noDict_hsm (PyData.hasDict_of_canLay d (SeqAt.canLay_of_shaped sh))) guard (by omega) (fun _ _ e => e) (fun h' u tk hk => ⟨.str d.shown, H, I.kept (t' := tk) hk, ⟨u, rfl⟩, q⟩) sz
/-- C.m(e, ..), C a class of one's own by name, m a def of its body -/
structure BaseM (K : PySem.W.Frag) (C : Addr) (m : Str) (f : Addr) : Prop where
  rd : PySem.W.readsIn K C (.type "type") = true
  ga : PySem.W.specialIn K (.ref C) "__getattribute__" = some (some (.builtin "type.__getattribute__"))
  at_ : PySem.W.findCls K (.ref C) (.type "type") m = some (.val (.ref f))
  kp : PySem.W.keepIn K (.ref f) = true
variable {CX : CXT} {k : Nat} {f C : Addr} {fd : FuncData} {ps : List Str} {sp : Sp} {dvs : List V} {ds : List Value} {E : XK} {x m : Str} {p pos apos : Pos} {e o : Expr} {es : List Expr} {ta : TE} {t : TA}
def tBase (C : Addr) (sp : Sp) (dvs : List V) (E : XK) (ta : TE) (t : TA) : TE := fun σ H Q => ta σ H fun x H1 => x = .ref C ∧ t σ H1 fun vs H2 => sp (vs ++ dvs) H2 Q E
theorem pe_base {pl : Sem Bool} (ho : PE X o ta) (b : BaseM X.K C m f) (F : FnOk X.prog X.w X.K X.mg X.base CX k f fd ps sp) (room : Room k X.A) (hb : Binds X.K fd ps ds) (hd : Vals dvs ds) (hx : Passes CX X E) (ha : PA X (e :: es) t)
    (hst : starEach (e :: es) X.env = (false, eval e X.env) :: starEach es X.env := by rfl) (hpl : (backTo pos (starEach es X.env)).any (·.1) = false := by rfl)
    (ht : eval (.Call (.Attribute o m apos) (e :: es) [] pos) X.env = (do
      let ov ← eval o X.env
      standAt apos.atName
      let (f, first) ← holding [ov] (getMethod ov m pl)
      callWith pos f first (backTo pos (starEach (e :: es) X.env)) (backToKw pos (keywordEach [] X.env))) := by rfl) :
    PE X (.Call (.Attribute o m apos) (e :: es) [] pos) (tBase C sp dvs E ta t) := by
  refine ⟨fun pins s σ H Q I h => ?_⟩
  refine PySem.W.methodCall_KW (pl := pl) (thn (ho.run pins s σ H _ I h) fun u s1 ⟨x, H1, I1, rx, ex, q⟩ => ?_) ht
  subst ex
  obtain rfl : u = Value.ref C := rx
  refine PySem.W.method_cls I1.kIn b.ga (PySem.W.cls_value I1.kIn b.rd b.at_ rfl ?_)
  have I2 := I1.tok (s1.toks + 1)
  exact PySem.W.callWith_K (first := []) (h₀ := X.base) I.ok.mod.kin b.kp (thn (ha.run pos pins _ σ H1 _ I2 q) fun us s2 ⟨vs, H2, I3, r, q2⟩ => ⟨I3.kIn, run_fn F room hb hd hx I3 r q2⟩) hst hpl
end
/-! ### how long a repr is -/
theorem shown_sum {B : Nat} : ∀ ds : List PyData, (∀ d ∈ ds, d.shown.length ≤ B) → ((PyData.shownAll ds).map (·.length)).sum ≤ B * ds.length
  | [], _ => by rw [PyData.shownAll]; exact Nat.zero_le _
  | d :: ds, h => by
    have h1 := h d List.mem_cons_self
    have h2 := shown_sum ds fun z hz => h z (List.mem_cons_of_mem _ hz)
    rw [PyData.shownAll, List.map_cons, List.sum_cons, List.length_cons, Nat.mul_succ]
    omega
theorem shown_list {B : Nat} {ds : List PyData} (h : ∀ d ∈ ds, d.shown.length ≤ B) : (PyData.shown (.list ds)).length ≤ (B + 2) * ds.length + 3 := by
  have h1 := shown_sum ds h
  have h2 := listText_len_le (PyData.shownAll ds)
  rw [PyData.shownAll_length] at h2
  rw [PyData.shown, Nat.add_mul]
  omega
theorem shown_tuple {B : Nat} {ds : List PyData} (h : ∀ d ∈ ds, d.shown.length ≤ B) : (PyData.shown (.tuple ds)).length ≤ (B + 2) * ds.length + 3 := by
  have h1 := shown_sum ds h
  have h2 := tupleText_len_le (PyData.shownAll ds)
  rw [PyData.shownAll_length] at h2
  rw [PyData.shown, Nat.add_mul]
  omega
theorem shown_num {i : Int} (h : i.natAbs.log2 < 1920) : (PyData.shown (.int i)).length ≤ 1921 := by
  exact int_text_len_1921 h
theorem log2_of {i : Int} {b : Nat} (h : i.natAbs < 2 ^ b) (h0 : 0 < b) (h1 : b ≤ 1920) : i.natAbs.log2 < 1920 := Nat.lt_of_lt_of_le (PySem.Flt.log2_lt_of h0 h) h1
end L2
namespace L2
open PySem PySem.Spec PyProof.Rows
/-! ## Own words, 3: a method called in a try; a local that holds one of some defs -/
section
variable {X : Cx} {CX : CXT} {k i : Nat} {f C : Addr} {fd : FuncData} {ps : List Str} {sp : Sp} {E : St → XK} {x m : Str} {p pos apos : Pos} {e o : Expr} {es : List Expr} {ta : TE} {t : TA}
def tMethT (C : Addr) (m : Str) (sp : Sp) (E : St → XK) (ta : TE) (t : TA) : TE := fun σ H Q => ta σ H fun x H1 => ∃ a dx fs, x = .ref a ∧ H1 a = some (.ins C dx fs) ∧ fs.lookup m = none ∧ t σ H1 fun vs H2 => sp (x :: vs) H2 Q (E σ)
theorem pe_methT {pl : Sem Bool} (ho : PE X o ta) (c : Cls X.K C) (hm : Meth X.K C m f) (F : FnOk X.prog X.w X.K X.mg X.base CX k f fd ps sp) (room : Room k X.A) (hb : Binds X.K fd ps []) (hx : ∀ σ, PassesAt CX X σ (E σ)) (ha : PA X (e :: es) t)
    (hst : starEach (e :: es) X.env = (false, eval e X.env) :: starEach es X.env := by rfl) (hpl : (backTo pos (starEach es X.env)).any (·.1) = false := by rfl)
    (ht : eval (.Call (.Attribute o m apos) (e :: es) [] pos) X.env = (do
      let ov ← eval o X.env
      standAt apos.atName
      let (f, first) ← holding [ov] (getMethod ov m pl)
      callWith pos f first (backTo pos (starEach (e :: es) X.env)) (backToKw pos (keywordEach [] X.env))) := by rfl) :
    PE X (.Call (.Attribute o m apos) (e :: es) [] pos) (tMethT C m sp E ta t) := by
  refine ⟨fun pins s σ H Q I h => ?_⟩
  refine PySem.W.methodCall_KW (pl := pl) (thn (ho.run pins s σ H _ I h) fun u s1 ⟨x, H1, I1, rx, a, dx, fs, ex, ea, l, q⟩ => ?_) ht
  subst ex
  obtain rfl : u = Value.ref a := rx
  refine getmeth_ok I1 ea c hm l (PySem.W.callWith_K (first := [.ref a]) (h₀ := X.base) I.ok.mod.kin hm.kp (thn (ha.run pos pins s1 σ H1 _ I1 q) fun us s2 ⟨vs, H2, I2, r, q2⟩ => ⟨I2.kIn, ?_⟩) hst hpl)
  exact run_fnS (us := .ref a :: us) (vs := .ref a :: vs) F room hb (hx σ) I2 (.cons rfl r) q2
/-- the i-th slot holds one of these defs, all of one promise -/
def tOneOf (i : Nat) (fs : List Addr) (sp : Sp) (t : TA) : TE := fun σ H Q => ∃ f, f ∈ fs ∧ σ[i]? = some (some (.ref f)) ∧ t σ H fun vs H1 => sp vs H1 Q E0
theorem pe_oneOf {fs : List Addr} (F : ∀ f, f ∈ fs → ∃ fd ps, FnG X.prog X.w X.K X.mg X.base CX0 k f fd ps sp ∧ PySem.W.keepIn X.K (.ref f) = true ∧ Binds X.K fd ps []) (room : Room k X.A) (guard : X.A.guards = some []) (hN : X.N[i]? = some x) (hv : Vis X.env.scope x) (ha : PA X (e :: es) t)
    (hdb : (x == ("__debug__" : Str)) = false := by decide) (hcd : (x == ("__classdict__" : Str)) = false := by decide) (he : starEach (e :: es) X.env = (false, eval e X.env) :: starEach es X.env := by rfl)
    (hpl : (backTo pos (starEach es X.env)).any (·.1) = false := by rfl) : PE X (.Call (.Name x p) (e :: es) [] pos) (tOneOf i fs sp t) := by
  refine ⟨fun pins s σ H Q I h => ?_⟩
  obtain ⟨f, hf, hs, q0⟩ := h
  obtain ⟨fd, ps, G, kp, hb⟩ := F f hf
  have look := (pe_var (pos := p) hN hv hdb hcd).run pins s σ H (fun v H1 => v = .ref f ∧ H1 = H) I ⟨.ref f, hs, rfl, rfl⟩
  refine wpAny_Call_Name_kw (thn look fun u s1 ⟨v, H1, I1, r1, ev, eH⟩ => ?_)
  subst ev eH
  obtain rfl : u = Value.ref f := r1
  refine PySem.W.callWith_K (h₀ := X.base) I.ok.mod.kin kp (thn (ha.run pos pins s1 σ _ _ I1 q0) fun us s2 ⟨vs, H2, I2, r, q⟩ => ⟨I2.kIn, ?_⟩) he hpl
  exact goes_fn (dvs := []) (E := E0) G room guard hb .nil pass0 I2 r (by rw [List.append_nil]; exact q)
end
end L2
namespace L2
open PySem PySem.Spec PyProof.Rows
/-! ## Own words, 4: a tuple times 0 or 1 -/
theorem tup_once (l : Addr) (items : Array Value) (n : Nat) (dd : Option Addr) (sl : Array (Option Value)) (u : Tok) :
    Meets (Builtin.«tuple.__mul__» ⟨[.ref l, .int 1 u], []⟩) (fun _ R s => s.heap.get? l = some { cls := .type "tuple", dict := dd, data := .seq items n, slots := sl } ∧ R (.ok (.ret (Value.ref l))) s) :=
  .of_wp fun prog w A R s h => by
    obtain ⟨hp, g, d, tk, os⟩ := s
    obtain ⟨at_, h⟩ := h
    have f1 := AutoSeq1.idx_int
    wp_walk using wpAny_loadPart' at_
    exact ⟨_, rfl, h⟩
theorem tup_never (l : Addr) (items : Array Value) (n : Nat) (dd : Option Addr) (sl : Array (Option Value)) (u : Tok) (c1 : items.isEmpty = false) :
    Meets (Builtin.«tuple.__mul__» ⟨[.ref l, .int 0 u], []⟩) (fun _ R s => s.heap.get? l = some { cls := .type "tuple", dict := dd, data := .seq items n, slots := sl } ∧ R (.ok (.ret (Value.ref s.heap.objs.size))) { s with heap := s.heap.push { cls := Value.type "tuple", data := Data.seq #[] }, toks := s.toks }) :=
  .of_wp fun prog w A R s h => by
    obtain ⟨hp, g, d, tk, os⟩ := s
    obtain ⟨at_, h⟩ := h
    have f1 := AutoSeq1.idx_int
    wp_walk using wpAny_loadPart' at_
    exact ⟨_, rfl, h⟩
/-- t * k, t a tuple that holds something, k from 0 on -/
def rTimes (K : PySem.W.Frag) : R2 := fun x y H Q => ∃ (l : Addr) (k : Nat) (xs : List V), x = .ref l ∧ y = .int (k : Int) ∧ SqT K H l xs ∧ xs ≠ [] ∧ k ≤ 1000 ∧ xs.length ≤ 1000 ∧ (k = 1 → Q (.ref l) H) ∧ (k ≠ 1 → ∀ p, H p = none → Q (.ref p) (upd H p (.tup (List.replicate k xs).flatten)))
theorem op_times {X : Cx} : OpR X (binaryOp .Mult) (rTimes X.K) := by
  intro pins s σ H x y v u Q I rx ry h
  obtain ⟨l, k, xs, rfl, rfl, hT, hne, h2, hz, q1, qn⟩ := h
  by_cases two : 2 ≤ k
  · exact op_repT pins s σ H _ _ v u Q I rx ry ⟨l, (k : Int), xs, rfl, rfl, hT, hne, by omega, by omega, hz, fun p hp => qn (by omega) p hp⟩
  · cases rx
    obtain ⟨t, rfl⟩ := ry
    obtain ⟨its, r, ⟨⟨cls, dd, data, sl⟩, ho, hc, n, hd⟩, hs⟩ := I.tuple hT
    simp only at hc hd
    subst hc hd
    have which : k = 0 ∨ k = 1 := by omega
    rcases which with rfl | rfl
    · have some_ : its.toArray.isEmpty = false := by
        cases its with
        | nil =>
          have e := r.length
          cases xs with
          | nil => exact absurd rfl hne
          | cons _ _ => cases e
        | cons _ _ => rfl
      refine wpAny_binaryOp_repeat_ref (T := "tuple") (U := "int") (by decide) ⟨_, ho, rfl⟩ (fun s' => typeIs_int s' 0 t) noFill_tuple_mul F.fills_int_mul F.slot_int_rmul repeat_tuple F.slot_int_index.lookup ?_
      refine call_meets F.slot_int_rmul (typeIs_int s 0 t) F.entry_int_rmul (F.args_int_rmul_2 _ _) (int_rmul_tuple 0 t l its.toArray n dd sl) ⟨ho, rfl, ⟨_, ho, rfl⟩, ?_⟩
      refine call_meets F.slot_tuple_mul ⟨_, ho, rfl⟩ F.entry_tuple_mul (F.args_tuple_mul_2 _ _) (tup_never l its.toArray n dd sl t some_) ⟨ho, ?_⟩
      have fresh := I.hok.fresh (Nat.le_refl s.heap.objs.size)
      refine ⟨.ref s.heap.objs.size, _, I.laid (t' := s.toks) (o := .tup []) (fun b ob q => Heap.get?_push_of_some _ q) (Nat.le_refl _) ?_, rfl, qn (by decide) _ fresh⟩
      exact ⟨Nat.zero_le _, [], .nil, IsTup.new _ _⟩
    · refine wpAny_binaryOp_repeat_ref (T := "tuple") (U := "int") (by decide) ⟨_, ho, rfl⟩ (fun s' => typeIs_int s' 1 t) noFill_tuple_mul F.fills_int_mul F.slot_int_rmul repeat_tuple F.slot_int_index.lookup ?_
      refine call_meets F.slot_int_rmul (typeIs_int s 1 t) F.entry_int_rmul (F.args_int_rmul_2 _ _) (int_rmul_tuple 1 t l its.toArray n dd sl) ⟨ho, rfl, ⟨_, ho, rfl⟩, ?_⟩
      refine call_meets F.slot_tuple_mul ⟨_, ho, rfl⟩ F.entry_tuple_mul (F.args_tuple_mul_2 _ _) (tup_once l its.toArray n dd sl t) ⟨ho, ?_⟩
      exact ⟨.ref l, H, I, rfl, q1 rfl⟩
end L2
namespace L2
open PySem PySem.Spec PyProof.Rows
/-! ## Own words, 5: one of two promises; the call of a value -/
section
variable {P : Program} {w : World} {K : PySem.W.Frag} {mg : Str → Option Value} {base : Heap} {CX : CXT} {k : Nat} {f : Addr} {fd : FuncData} {ps : List Str} {sp sp' : Sp}
theorem FnG.or (F : FnG P w K mg base CX k f fd ps sp) (F' : FnG P w K mg base CX k f fd ps sp') : FnG P w K mg base CX k f fd ps (fun vs H Q E => sp vs H Q E ∨ sp' vs H Q E) := by
  refine ⟨fun vs H Q E h => h.elim (F.size vs H Q E) (F'.size vs H Q E), fun A outer s H args us vs Q E room guard env bind rel h => ?_⟩
  rcases h with h | h
  · exact F.goes A outer s H args us vs Q E room guard env bind rel h
  · exact F'.goes A outer s H args us vs Q E room guard env bind rel h
theorem FnOk.or (F : FnOk P w K mg base CX k f fd ps sp) (F' : FnOk P w K mg base CX k f fd ps sp') : FnOk P w K mg base CX k f fd ps (fun vs H Q E => sp vs H Q E ∨ sp' vs H Q E) := by
  refine ⟨fun vs H Q E h => h.elim (F.len vs H Q E) (F'.len vs H Q E), fun A outer s H args us vs Q E room env bind rel h => ?_⟩
  rcases h with h | h
  · exact F.run A outer s H args us vs Q E room env bind rel h
  · exact F'.run A outer s H args us vs Q E room env bind rel h
end
section
variable {X : Cx} {k : Nat} {sp : Sp} {pos : Pos} {fe e : Expr} {es : List Expr} {tf : TE} {t : TA}
def tCallOf (fs : List Addr) (sp : Sp) (tf : TE) (t : TA) : TE := fun σ H Q => tf σ H fun y H1 => ∃ f, f ∈ fs ∧ y = .ref f ∧ t σ H1 fun vs H2 => sp vs H2 Q E0
theorem pe_callOf {fs : List Addr} (hf : PE X fe tf) (F : ∀ f, f ∈ fs → ∃ fd ps, FnOk X.prog X.w X.K X.mg X.base CX0 k f fd ps sp ∧ PySem.W.keepIn X.K (.ref f) = true ∧ Binds X.K fd ps []) (room : Room k X.A) (ha : PA X (e :: es) t)
    (ht : eval (.Call fe (e :: es) [] pos) X.env = (do callWith pos (← eval fe X.env) [] (backTo pos (starEach (e :: es) X.env)) (backToKw pos (keywordEach [] X.env))) := by rfl)
    (he : starEach (e :: es) X.env = (false, eval e X.env) :: starEach es X.env := by rfl) (hpl : (backTo pos (starEach es X.env)).any (·.1) = false := by rfl) : PE X (.Call fe (e :: es) [] pos) (tCallOf fs sp tf t) := by
  refine ⟨fun pins s σ H Q I h => ?_⟩
  refine Call_ (thn (hf.run pins s σ H _ I h) fun u s1 ⟨y, H1, I1, ry, f, hm, ey, q⟩ => ?_) ht
  subst ey
  obtain rfl : u = Value.ref f := ry
  obtain ⟨fd, ps, G, kp, hb⟩ := F f hm
  refine PySem.W.callWith_K (h₀ := X.base) I.ok.mod.kin kp (thn (ha.run pos pins s1 σ H1 _ I1 q) fun us s2 ⟨vs, H2, I2, r, q2⟩ => ⟨I2.kIn, ?_⟩) he hpl
  exact run_fn (dvs := []) (E := E0) G room hb .nil pass0 I2 r (by rw [List.append_nil]; exact q2)
end
end L2
universe u
namespace L2
open PySem PySem.Spec PyProof.Rows
/-! ## Own words, 6: a method of an object of one of some sorts; isinstance against a base class -/
/-- a sort's method and its promise -/
structure MethC (P : Program) (w : World) (K : PySem.W.Frag) (mg : Str → Option Value) (base : Heap) (k : Nat) (m : Str) (ps : List Str) (sp : Sp) (C : Addr) : Prop where
  ex : ∃ f fd, Cls K C ∧ Meth K C m f ∧ FnOk P w K mg base CX0 k f fd ps sp ∧ Binds K fd ps []
section
variable {X : Cx} {k : Nat} {α : Type u} {As : List α} {cl : α → Addr} {sp : α → Sp} {m : Str} {ps : List Str} {pos apos : Pos} {o e : Expr} {es : List Expr} {ta : TE} {t : TA}
def tMethOf (As : List α) (cl : α → Addr) (m : Str) (sp : α → Sp) (ta : TE) (t : TA) : TE := fun σ H Q => ta σ H fun x H1 => ∃ (A : α) (a dx : Addr) (fs : List (Str × V)), A ∈ As ∧ x = .ref a ∧ H1 a = some (.ins (cl A) dx fs) ∧ fs.lookup m = none ∧ t σ H1 fun vs H2 => sp A (x :: vs) H2 Q E0
theorem pe_methOf {pl : Sem Bool} (he : PE X o ta) (F : ∀ A, A ∈ As → MethC X.prog X.w X.K X.mg X.base k m ps (sp A) (cl A)) (hr : Room k X.A) (ha : PA X (e :: es) t)
    (hst : starEach (e :: es) X.env = (false, eval e X.env) :: starEach es X.env := by rfl) (hpl : (backTo pos (starEach es X.env)).any (·.1) = false := by rfl)
    (ht : eval (.Call (.Attribute o m apos) (e :: es) [] pos) X.env = (do
      let ov ← eval o X.env
      standAt apos.atName
      let (f, first) ← holding [ov] (getMethod ov m pl)
      callWith pos f first (backTo pos (starEach (e :: es) X.env)) (backToKw pos (keywordEach [] X.env))) := by rfl) :
    PE X (.Call (.Attribute o m apos) (e :: es) [] pos) (tMethOf As cl m sp ta t) := by
  refine ⟨fun pins s σ H Q I h => ?_⟩
  refine PySem.W.methodCall_KW (pl := pl) (thn (he.run pins s σ H _ I h) fun u s1 ⟨x, H1, I1, rx, A, a, dx, fs, hA, ex, ea, l, q⟩ => ?_) ht
  subst ex
  obtain rfl : u = Value.ref a := rx
  obtain ⟨f, fd, c, hm, G, hb⟩ := (F A hA).ex
  refine getmeth_ok I1 ea c hm l ?_
  refine PySem.W.callWith_K (first := [.ref a]) (h₀ := X.base) I.ok.mod.kin hm.kp (thn (ha.run pos pins s1 σ H1 _ I1 q) fun us s2 ⟨vs, H2, I2, r, q2⟩ => ⟨I2.kIn, ?_⟩) hst hpl
  exact run_fn (us := .ref a :: us) (vs := .ref a :: vs) (dvs := []) (E := E0) G hr hb .nil pass0 I2 (.cons rfl r) (by rw [List.append_nil]; exact q2)
theorem pe_methOf0 {pl : Sem Bool} (he : PE X o ta) (F : ∀ A, A ∈ As → MethC X.prog X.w X.K X.mg X.base k m ps (sp A) (cl A)) (hr : Room k X.A)
    (ht : eval (.Call (.Attribute o m apos) [] [] pos) X.env = (do
      let ov ← eval o X.env
      standAt apos.atName
      let (f, first) ← holding [ov] (getMethod ov m pl)
      callWith pos f first (backTo pos (starEach [] X.env)) (backToKw pos (keywordEach [] X.env))) := by rfl) :
    PE X (.Call (.Attribute o m apos) [] [] pos) (tMethOf As cl m sp ta tNil) := by
  refine ⟨fun pins s σ H Q I h => ?_⟩
  refine PySem.W.methodCall_KW (pl := pl) (thn (he.run pins s σ H _ I h) fun u s1 ⟨x, H1, I1, rx, A, a, dx, fs, hA, ex, ea, l, q⟩ => ?_) ht
  subst ex
  obtain rfl : u = Value.ref a := rx
  obtain ⟨f, fd, c, hm, G, hb⟩ := (F A hA).ex
  refine getmeth_ok I1 ea c hm l ?_
  exact PySem.W.callWith_K0 (first := [.ref a]) I1.kIn hm.kp (run_fn (us := [.ref a]) (vs := [.ref a]) (dvs := []) (E := E0) G hr hb .nil pass0 I1 (.cons rfl .nil) q)
end
section
variable {P : Program} {w : World} {K : PySem.W.Frag} {mg : Str → Option Value} {base : Heap} {CX : CXT} {k : Nat} {f : Addr} {fd : FuncData} {ps : List Str} {α : Type u} {As : List α} {sp : α → Sp}
theorem FnG.any (F : ∀ A, A ∈ As → FnG P w K mg base CX k f fd ps (sp A)) : FnG P w K mg base CX k f fd ps (fun vs H Q E => ∃ A, A ∈ As ∧ sp A vs H Q E) :=
  ⟨fun vs H Q E ⟨A, hA, h⟩ => (F A hA).size vs H Q E h, fun A outer s H args us vs Q E room guard env bind rel ⟨B, hB, h⟩ => (F B hB).goes A outer s H args us vs Q E room guard env bind rel h⟩
end
/-- what isinstance(o, CN) asks of o's class -/
structure InsC (K : PySem.W.Frag) (C CN : Addr) : Prop where
  ha : PySem.W.findIn K (.ref C) "__class__" = some (some (.builtin "object.__class__"))
  hn : PySem.W.specialIn K (.builtin "object.__class__") "__get__" = some (some (.builtin "getset_descriptor.__get__"))
  tk : PySem.W.takesIn K (.builtin "object.__class__") = some true
  mr : PySem.W.mroIn K C (.type "object") = some true
  kit : PySem.W.kitOne K (.ref C) (.ref CN) = some true
def insB (K : PySem.W.Frag) (C CN : Addr) : Bool :=
  decide (PySem.W.findIn K (.ref C) "__class__" = some (some (.builtin "object.__class__"))) && (decide (PySem.W.specialIn K (.builtin "object.__class__") "__get__" = some (some (.builtin "getset_descriptor.__get__"))) &&
  (decide (PySem.W.takesIn K (.builtin "object.__class__") = some true) && (decide (PySem.W.mroIn K C (.type "object") = some true) && decide (PySem.W.kitOne K (.ref C) (.ref CN) = some true))))
theorem insB_ok {K : PySem.W.Frag} {C CN : Addr} (h : insB K C CN = true) : InsC K C CN := by
  obtain ⟨h1, h⟩ := He.ba h
  obtain ⟨h2, h⟩ := He.ba h
  obtain ⟨h3, h⟩ := He.ba h
  obtain ⟨h4, h5⟩ := He.ba h
  exact ⟨of_decide_eq_true h1, of_decide_eq_true h2, of_decide_eq_true h3, of_decide_eq_true h4, of_decide_eq_true h5⟩
theorem InsC.ty {K : PySem.W.Frag} {C CN a dx : Addr} {H : Hp} {fs : List (Str × V)} (i : InsC K C CN) (c : Cls K C) (h : H a = some (.ins C dx fs)) : TyX K H (.ref a) (.ref C) := .base (.ins h c i.ha i.hn i.tk i.mr)
end L2
namespace L2
open PySem PySem.Spec PyProof.Rows
/-! ## Own words, 7: rules whose written part is given (within comprehensions) -/
section
variable {X : Cx} {K : PySem.W.Frag} {tg l e : Expr} {tl ta : TE} {f : Str} {pos : Pos}
theorem pe_fldK (h : X.K = K) (he : PE X e ta) (hb : attributeBase e f X.env (eval e X.env) = eval e X.env) : PE X (.Attribute e f pos) (tFld K ta f) := by
  subst h
  exact pe_fld he hb
theorem call_len_seqK (h : X.K = K) : CallR X (.builtin "len") (fun xs H Q => ∃ p ys, xs = [.ref p] ∧ (SqL K H p ys ∨ SqT K H p ys) ∧ Q (.int ys.length) H) := by
  subst h
  exact call_len_seq
theorem ix_listK (h : X.K = K) : IxR X (rIxL K) := by
  subst h
  exact ix_list
theorem ix_tupK (h : X.K = K) : IxR X (rIxT K) := by
  subst h
  exact ix_tup
theorem call_list_ofK (h : X.K = K) : CallR X (.type "list") (fun xs H Q => ∃ p ys, xs = [.ref p] ∧ (SqL K H p ys ∨ SqT K H p ys) ∧ ∀ l, H l = none → Q (.ref l) (upd H l (.lst ys))) := by
  subst h
  exact call_list_of
theorem call_tuple_ofK (h : X.K = K) : CallR X (.type "tuple") (fun xs H Q => ∃ p ys, xs = [.ref p] ∧ ((SqL K H p ys ∧ ∀ l, H l = none → Q (.ref l) (upd H l (.tup ys))) ∨ (SqT K H p ys ∧ Q (.ref p) H))) := by
  subst h
  exact call_tuple_of
theorem sl_listK (h : X.K = K) : SlR X (rSlL K) := by
  subst h
  exact sl_list
theorem pi_listK (h : X.K = K) (hl : PE X l tl) : PI X tg l (iList K tl) := by
  subst h
  exact pi_list hl
theorem pi_tupK (h : X.K = K) (hl : PE X l tl) : PI X tg l (iTup K tl) := by
  subst h
  exact pi_tup hl
theorem call_isiG (h : X.K = K) : CallR X (.builtin "isinstance") (rIsi K) := by
  subst h
  exact call_isi
end
theorem yes_ite {σ : L2.St} {H : Hp} {a b : Hp → Prop} (h : a H) : tYes σ H (fun t H' => if t = true then a H' else b H') := by
  unfold tYes
  exact iteT h
end L2
namespace Sw
open PySem PySem.Spec PyProof.Rows L2
/-! ### the mathematics of polynomials -/
def at0 (ns : List Int) (k : Nat) : Int := ns.getD k 0
def sumTo : Nat → (Nat → Int) → Int
  | 0, _ => 0
  | n + 1, f => sumTo n f + f n
def mk (n : Nat) (f : Nat → Int) : List Int := (List.range n).map f
def trimN (ns : List Int) : Nat → Nat
  | 0 => 0
  | n + 1 => if at0 ns n = 0 then trimN ns n else n + 1
def trim (ns : List Int) : List Int := ns.take (trimN ns ns.length)
def sumL (a b : List Int) : List Int := trim (mk (max a.length b.length) fun k => at0 a k + at0 b k)
def conv (a b : List Int) (k : Nat) : Int := sumTo (k + 1) fun j => at0 a j * at0 b (k - j)
def prodL (a b : List Int) : List Int := trim (mk (a.length + b.length) (conv a b))
theorem trimN_le (ns : List Int) : ∀ n, trimN ns n ≤ n
  | 0 => Nat.le_refl 0
  | n + 1 => by
    rw [trimN]
    split
    · exact Nat.le_succ_of_le (trimN_le ns n)
    · exact Nat.le_refl _
theorem trim_len (ns : List Int) : (trim ns).length ≤ ns.length := by
  unfold trim
  rw [List.length_take]
  omega
theorem at0_out {ns : List Int} {k : Nat} (h : ns.length ≤ k) : at0 ns k = 0 := by
  unfold at0
  rw [List.getD_eq_getElem?_getD, List.getElem?_eq_none h]
  rfl
theorem at0_get {ns : List Int} {k : Nat} (h : k < ns.length) : ns[k]? = some (at0 ns k) := by
  unfold at0
  rw [List.getD_eq_getElem?_getD, List.getElem?_eq_getElem h]
  rfl
theorem mk_len (n : Nat) (f : Nat → Int) : (mk n f).length = n := by
  unfold mk
  rw [List.length_map, List.length_range]
theorem mk_get {n : Nat} {f : Nat → Int} {k : Nat} (h : k < n) : (mk n f)[k]? = some (f k) := by
  unfold mk
  rw [List.getElem?_map, List.getElem?_range h]
  rfl
theorem mk_at {n : Nat} {f : Nat → Int} {k : Nat} (h : k < n) : at0 (mk n f) k = f k := by
  have e := at0_get (ns := mk n f) (k := k) (by rw [mk_len]; exact h)
  rw [mk_get h] at e
  exact (Option.some.inj e).symm
theorem mk_congr {n : Nat} {f g : Nat → Int} (h : ∀ k, k < n → f k = g k) : mk n f = mk n g := by
  unfold mk
  exact List.map_congr_left fun k hk => h k (List.mem_range.mp hk)
theorem mk_succ (n : Nat) (f : Nat → Int) : mk (n + 1) f = mk n f ++ [f n] := by
  unfold mk
  rw [List.range_succ, List.map_append]
  rfl
theorem mk_set {n i : Nat} {f : Nat → Int} {v : Int} : (mk n f).set i v = mk n fun k => if k = i then v else f k := by
  refine List.ext_getElem? fun k => ?_
  rw [List.getElem?_set]
  by_cases hk : k < n
  · rw [mk_get hk, mk_get hk]
    by_cases e : i = k
    · subst e
      rw [if_pos rfl, if_pos rfl, if_pos (by rw [mk_len]; exact hk)]
    · rw [if_neg e, if_neg (fun z => e z.symm)]
  · rw [List.getElem?_eq_none (by rw [mk_len]; omega), List.getElem?_eq_none (by rw [mk_len]; omega)]
    split
    · rw [if_neg (by rw [mk_len]; omega)]
    · rfl
theorem mk_const (n : Nat) : List.replicate n (0 : Int) = mk n fun _ => 0 := by
  refine List.ext_getElem? fun k => ?_
  by_cases hk : k < n
  · rw [mk_get hk, List.getElem?_replicate, if_pos hk]
  · rw [List.getElem?_eq_none (by rw [List.length_replicate]; omega), List.getElem?_eq_none (by rw [mk_len]; omega)]
theorem sumTo_congr {n : Nat} {f g : Nat → Int} (h : ∀ k, k < n → f k = g k) : sumTo n f = sumTo n g := by
  induction n with
  | zero => rfl
  | succ n ih =>
    rw [sumTo, sumTo, ih fun k hk => h k (by omega), h n (by omega)]
theorem sumTo_more {n m : Nat} {f : Nat → Int} (h : ∀ k, n ≤ k → f k = 0) (le : n ≤ m) : sumTo m f = sumTo n f := by
  induction m with
  | zero =>
    have : n = 0 := by omega
    rw [this]
  | succ m ih =>
    by_cases e : n = m + 1
    · rw [e]
    · rw [sumTo, ih (by omega), h m (by omega), Int.add_zero]
theorem sumTo_head (n : Nat) (f : Nat → Int) : sumTo (n + 1) f = f 0 + sumTo n fun j => f (j + 1) := by
  induction n with
  | zero =>
    rw [sumTo, sumTo, sumTo]
    omega
  | succ n ih =>
    rw [sumTo, ih, sumTo]
    omega
theorem sumTo_rev (n : Nat) (f : Nat → Int) : sumTo n (fun j => f (n - 1 - j)) = sumTo n f := by
  induction n with
  | zero => rfl
  | succ n ih =>
    rw [sumTo_head, sumTo]
    have e : sumTo n (fun j => f (n + 1 - 1 - (j + 1))) = sumTo n f := by
      rw [← ih]
      exact sumTo_congr fun k _ => by rw [show n + 1 - 1 - (k + 1) = n - 1 - k by omega]
    rw [e, show n + 1 - 1 - 0 = n by omega]
    omega
theorem sumTo_zero (n : Nat) : sumTo n (fun _ => 0) = 0 := by
  induction n with
  | zero => rfl
  | succ n ih => rw [sumTo, ih]; rfl
theorem sumTo_one {n c : Nat} {f : Nat → Int} : sumTo n (fun j => if j = c then f j else 0) = if c < n then f c else 0 := by
  induction n with
  | zero => rfl
  | succ n ih =>
    rw [sumTo, ih]
    by_cases e : n = c
    · subst e
      rw [if_neg (by omega), if_pos rfl, if_pos (by omega)]
      omega
    · rw [if_neg e]
      by_cases l : c < n
      · rw [if_pos l, if_pos (by omega)]
        omega
      · rw [if_neg l, if_neg (by omega)]
        rfl
theorem sum_map_range (n : Nat) (f : Nat → Int) : ((List.range n).map f).sum = sumTo n f := by
  induction n with
  | zero => rfl
  | succ n ih => rw [List.range_succ, List.map_append, List.sum_append, ih, sumTo]; simp
theorem conv_comm (a b : List Int) (k : Nat) : conv a b k = conv b a k := by
  unfold conv
  rw [← sumTo_rev (k + 1) fun j => at0 b j * at0 a (k - j)]
  refine sumTo_congr fun j hj => ?_
  rw [show k + 1 - 1 - j = k - j by omega, show k - (k - j) = j by omega, Int.mul_comm]
theorem sumL_comm (a b : List Int) : sumL a b = sumL b a := by
  unfold sumL
  rw [Nat.max_comm a.length]
  congr 1
  exact mk_congr fun k _ => Int.add_comm _ _
theorem prodL_comm (a b : List Int) : prodL a b = prodL b a := by
  unfold prodL
  rw [Nat.add_comm a.length]
  congr 1
  exact mk_congr fun k _ => conv_comm a b k
/-! terms -/
def tmsN (b : List Int) : Nat → List (Nat × Int)
  | 0 => []
  | i + 1 => if at0 b i = 0 then tmsN b i else tmsN b i ++ [(i, at0 b i)]
def tms (b : List Int) : List (Nat × Int) := tmsN b b.length
def sumBy (l : List (Nat × Int)) (g : Nat → Int → Int) : Int := (l.map fun t => g t.1 t.2).sum
theorem sumBy_snoc (l : List (Nat × Int)) (t : Nat × Int) (g : Nat → Int → Int) : sumBy (l ++ [t]) g = sumBy l g + g t.1 t.2 := by
  unfold sumBy
  rw [List.map_append, List.sum_append]
  simp
theorem tmsN_sum (b : List Int) (g : Nat → Int → Int) (h : ∀ k, g k 0 = 0) (n : Nat) : sumBy (tmsN b n) g = sumTo n fun j => g j (at0 b j) := by
  induction n with
  | zero => rfl
  | succ n ih =>
    rw [tmsN, sumTo]
    split
    · rename_i z
      rw [ih, z, h, Int.add_zero]
    · rw [sumBy_snoc, ih]
theorem tmsN_mem {b : List Int} {n : Nat} {t : Nat × Int} (h : t ∈ tmsN b n) : t.1 < n ∧ t.2 = at0 b t.1 := by
  induction n with
  | zero => cases h
  | succ n ih =>
    rw [tmsN] at h
    split at h
    · have := ih h
      exact ⟨by omega, this.2⟩
    · rcases List.mem_append.mp h with h | h
      · have := ih h
        exact ⟨by omega, this.2⟩
      · rcases List.mem_cons.mp h with rfl | h
        · exact ⟨by show n < n + 1; omega, rfl⟩
        · cases h
theorem tmsN_len (b : List Int) (n : Nat) : (tmsN b n).length ≤ n := by
  induction n with
  | zero => exact Nat.le_refl 0
  | succ n ih =>
    rw [tmsN]
    split
    · omega
    · rw [List.length_append]
      show _ + 1 ≤ _
      omega
def inner (b : List (Nat × Int)) (p : Nat) (x : Int) (k : Nat) : Int := sumBy b fun f y => if p + f = k then x * y else 0
def outer (a b : List (Nat × Int)) (k : Nat) : Int := sumBy a fun p x => inner b p x k
theorem inner_tms (b : List Int) (p : Nat) (x : Int) (k : Nat) : inner (tms b) p x k = if p ≤ k then x * at0 b (k - p) else 0 := by
  unfold inner tms
  rw [tmsN_sum b _ (fun f => by split <;> simp)]
  by_cases h : p ≤ k
  · rw [if_pos h]
    have e : sumTo b.length (fun j => if p + j = k then x * at0 b j else 0) = sumTo b.length fun j => if j = k - p then x * at0 b j else 0 := by
      refine sumTo_congr fun j _ => ?_
      by_cases e : p + j = k
      · rw [if_pos e, if_pos (by omega)]
      · rw [if_neg e, if_neg (by omega)]
    rw [e, sumTo_one (f := fun j => x * at0 b j)]
    split
    · rfl
    · rw [at0_out (by omega), Int.mul_zero]
  · rw [if_neg h]
    rw [sumTo_congr (g := fun _ => 0) fun j _ => if_neg (by omega)]
    exact sumTo_zero _
theorem outer_tms (a b : List Int) (k : Nat) : outer (tms a) (tms b) k = conv a b k := by
  unfold outer tms
  have h0 : ∀ j, inner (tmsN b b.length) j 0 k = 0 := fun j => by
    have e := inner_tms b j 0 k
    unfold tms at e
    rw [e]
    split <;> simp
  rw [tmsN_sum a _ h0]
  unfold conv
  have e : sumTo a.length (fun j => inner (tmsN b b.length) j (at0 a j) k) = sumTo a.length fun j => if j ≤ k then at0 a j * at0 b (k - j) else 0 := sumTo_congr fun j _ => inner_tms b j (at0 a j) k
  rw [e]
  have e1 : sumTo (max a.length (k + 1)) (fun j => if j ≤ k then at0 a j * at0 b (k - j) else 0) = sumTo a.length fun j => if j ≤ k then at0 a j * at0 b (k - j) else 0 :=
    sumTo_more (fun j hj => by rw [at0_out hj, Int.zero_mul, ite_self]) (by omega)
  have e2 : sumTo (max a.length (k + 1)) (fun j => if j ≤ k then at0 a j * at0 b (k - j) else 0) = sumTo (k + 1) fun j => if j ≤ k then at0 a j * at0 b (k - j) else 0 :=
    sumTo_more (fun j hj => if_neg (by omega)) (by omega)
  rw [← e1, e2]
  exact sumTo_congr fun j hj => if_pos (by omega)
/-! trimming from behind -/
theorem at0_take {ns : List Int} {e k : Nat} (h : k < e) : at0 (ns.take e) k = at0 ns k := by
  unfold at0
  rw [List.getD_eq_getElem?_getD, List.getD_eq_getElem?_getD, List.getElem?_take, if_pos h]
end Sw
namespace Sw
open PySem PySem.Spec PyProof.Rows L2
/-! ### 1. the text by places -/
def top (i : Nat) : Stmt := PySem.Challenge.pw_sampleweave_k81_polynomials.main.body.getD i (.Pass ⟨0, 0, 0, 0⟩)
abbrev FnP (K : PySem.W.Frag) (x : Str) (st : Stmt) (f : Addr) (fd : FuncData) : Prop := FunD K x x (defArgs st) (defBody st) (defScope st) [] [] f fd
abbrev sTrimmed : Stmt := top 1
abbrev sTerms : Stmt := top 2
abbrev sAdded : Stmt := top 3
abbrev sMultiplied : Stmt := top 4
abbrev sPot : Stmt := top 6
abbrev sLDigit : Stmt := top 7
abbrev sLSmall : Stmt := top 8
abbrev sNumber : Stmt := top 9
abbrev sLCalled : Stmt := top 10
abbrev sLRow : Stmt := top 11
abbrev sLSecond : Stmt := top 12
abbrev sLEnded : Stmt := top 13
abbrev sLAt : Stmt := top 14
abbrev sLSum : Stmt := top 15
abbrev sLProduct : Stmt := top 16
abbrev sLaw : Stmt := top 17
/-! ### 2. pots -/
/-- all but what stands at p is as it was -/
def Kept (p : Addr) (H H' : Hp) : Prop := ∀ b o, b ≠ p → H b = some o → H' b = some o
theorem Kept.refl {p : Addr} {H : Hp} : Kept p H H := fun _ _ _ h => h
theorem Kept.trans {p : Addr} {H H1 H2 : Hp} (a : Kept p H H1) (b : Kept p H1 H2) : Kept p H H2 := fun c o n h => b c o n (a c o n h)
theorem Kept.upd {p : Addr} {H H1 : Hp} {o : HO} (a : Kept p H H1) : Kept p H (upd H1 p o) := fun c o n h => by
  rw [upd_ne n]
  exact a c o n h
theorem Kept.new {p q : Addr} {H H1 : Hp} {o : HO} (a : Kept p H H1) (h : H1 q = none) : Kept p H (L2.upd H1 q o) := fun c o n e => by
  have e1 := a c o n e
  rw [upd_ne (ne_of_none e1 h)]
  exact e1
theorem Kept.same {p : Addr} {H H1 : Hp} (a : Same H H1) : Kept p H H1 := fun c o _ e => a c o e
/-- behind a heap in which nothing stood at p -/
theorem Same.kept {p : Addr} {H0 H H1 : Hp} (s : Same H0 H) (h : H0 p = none) (k : Kept p H H1) : Same H0 H1 := fun b o e =>
  k b o (fun z => by rw [z, h] at e; cases e) (s b o e)
theorem Same.new {H H1 : Hp} {q : Addr} {o : HO} (a : Same H H1) (h : H1 q = none) : Same H (upd H1 q o) := fun c u e => by
  have e1 := a c u e
  rw [upd_ne (ne_of_none e1 h)]
  exact e1
/-- a pot: two numbers from 0 on, the second one small -/
def PotAt (H : Hp) (p : Addr) : Prop := ∃ a b : Int, 0 ≤ a ∧ 0 ≤ b ∧ b < 2147483647 ∧ H p = some (.lst [.int a, .int b])
theorem PotAt.keep {H H1 : Hp} {p : Addr} (h : PotAt H p) (s : Same H H1) : PotAt H1 p := by
  obtain ⟨a, b, h1, h2, h3, h4⟩ := h
  exact ⟨a, b, h1, h2, h3, s _ _ h4⟩
/-! ### lists of ints as data -/
theorem dp_ints {K : PySem.W.Frag} {H : Hp} : ∀ ns : List Int, DpAll K H (ns.map V.int) (ns.map PyData.int)
  | [] => .nil
  | n :: ns => .cons (.int n) (dp_ints ns)
theorem lay_ints : ∀ ns : List Int, PyData.canLayAll0 (ns.map PyData.int) = true
  | [] => rfl
  | n :: ns => by
    rw [List.map_cons, PyData.canLayAll0, lay_ints ns]
    rfl
theorem depth_ints : ∀ ns : List Int, PyData.depthAll (ns.map PyData.int) = 0
  | [] => by rw [List.map_nil, PyData.depthAll]
  | n :: ns => by
    rw [List.map_cons, PyData.depthAll, depth_ints ns, PyData.depth]
    rfl
theorem shaped_ints (ns : List Int) : SeqAt.shaped (.list (ns.map PyData.int)) = true := by
  unfold SeqAt.shaped
  rw [PyData.canLay0, lay_ints, PyData.depth, depth_ints]
  rfl
theorem eqv_ints (ns : List Int) : PyData.eqv (.list (ns.map PyData.int)) (.list (ns.map PyData.int)) = true := by
  refine SeqAt.eqv_refl _ ?_
  rw [PyData.canLay0]
  exact lay_ints ns
theorem dp_at {K : PySem.W.Frag} {H : Hp} {a : Addr} {ns : List Int} (h : H a = some (.lst (ns.map V.int))) : Dp K H (.ref a) (.list (ns.map PyData.int)) := .lst (SqL.of h) (dp_ints ns)
end Sw
namespace L2
open PySem PySem.Spec PyProof.Rows
section
variable {X : Cx}
/-- xs[i], by values -/
theorem get_list : PGet X (rIxL X.K) := by
  intro pins s σ H x y v u Q I rx ry h
  obtain ⟨p, xs, i, z, rfl, rfl, hq, he, q⟩ := h
  cases rx
  obtain ⟨t, rfl⟩ := ry
  obtain ⟨its, r, pl, hz⟩ := I.list hq
  obtain ⟨j, h1, h2, h3, h4, h5⟩ := atI_get he
  obtain ⟨w, ew, rw'⟩ := r.get h2
  have hl := r.length
  have hn := line63
  have fin : EP X pins σ Q w s := ⟨z, H, I, rw', q⟩
  by_cases h0 : 0 ≤ i
  · have hj : i.toNat = j := by
      rw [seqIndex_of h0 h5] at h1
      exact Option.some.inj h1
    exact wpAny_getItem_list pl.isList h0 (by omega) (by rw [hj]; simpa using ew) fin
  · have hj : (i + (its.toArray.size : Int)).toNat = j := by
      rw [seqIndex_neg (by omega) h4] at h1
      rw [List.size_toArray, ← hl]
      exact Option.some.inj h1
    exact wpAny_getItem_list_neg pl.isList (by omega) (by rw [List.size_toArray] <;> omega) (by omega) (by rw [hj]; simpa using ew) fin
/-- divmod of wide numbers: a new tuple -/
theorem call_divmodW : CallR X (.builtin "divmod") (fun xs H Q => ∃ i j, xs = [.int i, .int j] ∧ CDivW i j ∧ ∀ p, H p = none → Q (.ref p) (upd H p (.tup [.int (i / j), .int (i % j)]))) := by
  intro pins s σ H xs us Q I r h
  obtain ⟨i, j, rfl, ⟨h1, h2⟩, q⟩ := h
  obtain ⟨u, w', rfl, ⟨t, rfl⟩, ⟨t', rfl⟩⟩ := vals2 r
  refine divmod_int (by omega) ?_ (.inl (PyProof.noPylong_of_log2 h2))
  rw [Int.fdiv_eq_ediv_of_nonneg i (by omega), Int.fmod_eq_emod_of_nonneg i (by omega)]
  have hn : H s.heap.objs.size = none := I.hok.fresh (Nat.le_refl _)
  refine ⟨.ref s.heap.objs.size, _, ?_, rfl, q _ hn⟩
  refine I.laid (fun b o e => Heap.get?_push_of_some _ e) (Nat.le_refl _) ⟨by simp only [List.length_cons, List.length_nil]; rw [sizeLine_eq]; decide, [.int (i / j) s.toks, .int (i % j) (s.toks + 1)], .cons ⟨_, rfl⟩ (.cons ⟨_, rfl⟩ .nil), ?_⟩
  exact ⟨_, Heap.get?_push_size s.heap rfl, rfl, 0, rfl⟩
end
end L2
namespace Sw
open PySem PySem.Spec PyProof.Rows L2
theorem Same.past {H0 H : Hp} {q : Addr} {o : HO} (k : Same H0 H) (h : H0 q = none) : Same H0 (L2.upd H q o) := fun b u e => by
  rw [upd_ne (ne_of_none e h)]
  exact k b u e
theorem Kept.past {p q : Addr} {H H1 : Hp} {o : HO} (k : Kept p H H1) (h : H q = none) : Kept p H (L2.upd H1 q o) := fun b u n e => by
  rw [upd_ne (ne_of_none e h)]
  exact k b u n e
/-! ### the program -/
/-- a list of pairs (power, number) -/
def TermsAt (H : Hp) (l : Addr) (ts : List (Nat × Int)) : Prop := ∃ rs : List Addr, H l = some (.lst (rs.map V.ref)) ∧ rs.length = ts.length ∧ ∀ (i : Nat) (r : Addr) (t : Nat × Int), rs[i]? = some r → ts[i]? = some t → H r = some (.tup [.int (t.1 : Int), .int t.2])
def spTrimmed : Sp := fun vs H Q _ => ∃ (l : Addr) (ns : List Int), vs = [.ref l] ∧ H l = some (.lst (ns.map V.int)) ∧ ns.length ≤ 1000 ∧ ∀ p, H p = none → Q (.ref p) (upd H p (.lst ((trim ns).map V.int)))
def spTerms : Sp := fun vs H Q _ => ∃ (l : Addr) (ns : List Int), vs = [.ref l] ∧ H l = some (.lst (ns.map V.int)) ∧ ns.length ≤ 1000 ∧ ∀ p H', H p = none → Same H H' → TermsAt H' p (tms ns) → Q (.ref p) H'
def spAdded : Sp := fun vs H Q _ => ∃ (a b : Addr) (xs ys : List Int), vs = [.ref a, .ref b] ∧ H a = some (.lst (xs.map V.int)) ∧ H b = some (.lst (ys.map V.int)) ∧ xs.length ≤ 100 ∧ ys.length ≤ 100 ∧ ∀ p H', H p = none → Same H H' → H' p = some (.lst ((sumL xs ys).map V.int)) → Q (.ref p) H'
def Wd (n : Int) : Prop := n.natAbs < 2 ^ 200
def spMul : Sp := fun vs H Q _ => ∃ (a b : Addr) (xs ys : List Int), vs = [.ref a, .ref b] ∧ H a = some (.lst (xs.map V.int)) ∧ H b = some (.lst (ys.map V.int)) ∧ xs.length ≤ 100 ∧ ys.length ≤ 100 ∧ (∀ x ∈ xs, Wd x) ∧ (∀ y ∈ ys, Wd y) ∧ ∀ p H', H p = none → Same H H' → H' p = some (.lst ((prodL xs ys).map V.int)) → Q (.ref p) H'
theorem cut_front (ns : List Int) (e : Nat) : cutV (ns.map V.int) none (some (e : Int)) = (ns.take e).map V.int := by
  unfold cutV
  rw [HT.sIx_none, HT.sIx_nat, List.drop_zero, Nat.sub_zero, List.length_map, List.map_take]
  by_cases h : e ≤ ns.length
  · rw [Nat.min_eq_left h]
  · rw [Nat.min_eq_right (by omega), List.take_of_length_le (by rw [List.length_map]; omega), List.take_of_length_le (by rw [List.length_map]; omega)]
theorem iteT_ {p : Bool} {a b : Prop} (h : p = true) (x : a) : if p = true then a else b := by
  rw [if_pos h]
  exact x
theorem iteF_ {p : Bool} {a b : Prop} (h : p = false) (x : b) : if p = true then a else b := by
  rw [if_neg (by rw [h]; decide)]
  exact x
section
variable {P : Program} {w : World} {K : PySem.W.Frag} {mg : Str → Option Value} {base : Heap} {f f1 f2 f3 f4 f5 f6 f7 f8 f9 C CN CU CD : Addr} {fd fd1 fd2 fd3 fd4 fd5 fd6 fd7 fd8 fd9 : FuncData}
abbrev nTrimmed : List Str := ["numbers", "end"]
theorem scTrimmed : FnScope nTrimmed ["numbers"] (defScope sTrimmed) := ⟨rfl, rfl, rfl, by decide +kernel, rfl, by decide +kernel, by decide +kernel⟩
theorem ok_trimmed (F : FnP K "trimmed" sTrimmed f fd) (gLen : mg "len" = none) : FnOk P w K mg base CX0 1 f fd ["numbers"] spTrimmed := by
  refine F.ok scTrimmed (fun vs H Q E h => ?_) (fun cdv A outer s H vs Q E hr h => ?_)
  · obtain ⟨l, ns, rfl, _⟩ := h
    rfl
  · obtain ⟨l, ns, rfl, hl, few, k⟩ := h
    have nd := scTrimmed.nd
    refine ⟨_, PSs.nox (pss_cons (ps_set (i := 1) nd rfl (Or.inl rfl) (pe_callB call_len_seq (by rfl) gLen PySem.boot_len (pa_cons (pv 0) pa_nil)))
      (pss_cons (ps_while PassesOwn.never (PW.pt (pw_and (pt_cmpR op_gt (pv 1) pe_int (nomark _)) (pw_and1 (pt_cmpR op_eq (pe_ix ix_list (pv 0) (pe_op op_sub (pv 1) pe_int) (fun _ _ => rfl)) pe_int (nomark _)))))
      (pss_one (ps_aug (i := 1) nd rfl (Or.inl rfl) pe_int ip_sub)))
      (pss_one (ps_ret (pe_slice sl_list (pv 0) po_none (po_some (pv 1))))))), ?_⟩
    refine ⟨_, rfl, l, _, rfl, .inl (SqL.of hl), ?_⟩
    rw [List.length_map]
    dsimp only [gName]
    refine ⟨fun m σ H' => m ≤ ns.length ∧ σ = [some (.ref l), some (.int (m : Int))] ∧ H' = H ∧ trimN ns m = trimN ns ns.length, ⟨ns.length, Nat.le_refl _, rfl, rfl, rfl⟩, ?_⟩
    rintro e σ H' ⟨le, rfl, rfl, et⟩
    refine ⟨_, rfl, _, _, rfl, rfl, _, rfl, ?_⟩
    have out : trimN ns e = e → ∀ p, H' p = none → Q (.ref p) (upd H' p (.lst (cutV (ns.map V.int) none (some (e : Int))))) := fun z p hp => by
      rw [cut_front]
      have e1 : ns.take e = trim ns := by
        unfold trim
        rw [← et, z]
      rw [e1]
      exact k p hp
    refine ite2 (fun h => ?_) (fun h => ?_)
    · have e0 : 0 < e := by
        have := of_decide_eq_true h
        omega
      obtain ⟨n, rfl⟩ : ∃ n, e = n + 1 := ⟨e - 1, by omega⟩
      refine ⟨_, rfl, _, rfl, _, _, rfl, rfl, l, _, _, .int (at0 ns n), rfl, rfl, SqL.of hl, ?_, ?_⟩
      · rw [show ((n + 1 : Nat) : Int) - 1 = (n : Int) by omega]
        exact atI_nat (by rw [List.getElem?_map, at0_get (by omega)]; rfl)
      refine ⟨rfl, _, rfl, ?_⟩
      rw [trimN] at et out
      by_cases z : at0 ns n = 0
      · rw [if_pos z] at et
        rw [z]
        refine iteT_ rfl ?_
        refine ⟨fun σ' H'' => ∃ m', m' < n + 1 ∧ (m' ≤ ns.length ∧ σ' = [some (.ref l), some (.int (m' : Int))] ∧ H'' = H' ∧ trimN ns m' = trimN ns ns.length), fun _ _ h => h, ?_⟩
        refine ⟨_, rfl, _, _, rfl, rfl, n, by omega, by omega, ?_, rfl, et⟩
        show [some (V.ref l), some (V.int (((n + 1 : Nat) : Int) - 1))] = _
        rw [show ((n + 1 : Nat) : Int) - 1 = (n : Int) by omega]
      · rw [if_neg z] at out
        refine iteF_ (decide_eq_false fun y => z (V.int.inj y)) ?_
        exact ⟨_, rfl, _, rfl, _, rfl, l, _, rfl, SqL.of hl, out rfl⟩
    · have e0 : e = 0 := by
        have : ¬ (0 : Int) < (e : Int) := fun y => h (decide_eq_true y)
        omega
      subst e0
      exact ⟨_, rfl, _, rfl, _, rfl, l, _, rfl, SqL.of hl, out rfl⟩
abbrev nTerms : List Str := ["polynomial", "power", "number"]
theorem scTerms : FnScope nTerms ["polynomial"] (defScope sTerms) := ⟨rfl, rfl, rfl, by decide +kernel, rfl, by decide +kernel, by decide +kernel⟩
theorem ok_terms (F : FnP K "terms" sTerms f fd) (gEnum : mg "enumerate" = none) : FnOk P w K mg base CX0 1 f fd ["polynomial"] spTerms := by
  refine F.ok scTerms (fun vs H Q E h => ?_) (fun cdv A outer s H vs Q E hr h => ?_)
  · obtain ⟨l, ns, rfl, _⟩ := h
    rfl
  · obtain ⟨l, ns, rfl, hl, few, k⟩ := h
    have nd := scTerms.nd
    refine ⟨_, PSs.nox (pss_one (ps_ret (pe_lc (own := [("power", 1), ("number", 2)]) (g := (gTup K 2 (gCons (gName 1) (gCons (gName 2) gNil)))) (tt := _) rfl nd (pi_enum rfl gEnum (pa_cons (pv 0) pa_nil)) (blkOk_by (N := nTerms) (sc := defScope sTerms) (by decide +kernel))
        (fun _ _ _ _ _ => (pg_tup rfl (pgs_cons (pg_name (i := 1) nd rfl (Or.inl rfl)) (pgs_cons (pg_name (i := 2) nd rfl (Or.inl rfl)) pgs_nil)))) (fun _ _ _ _ _ => (pts_one (pt_cmpR op_ne (pv 2) pe_int (nomark _)))) (fun _ _ _ _ _ => (pe_tup (pa_cons (pv 1) (pa_cons (pv 2) pa_nil))))))), ?_⟩
    refine ⟨_, rfl, l, _, rfl, SqL.of hl, fun D hD => ?_⟩
    refine lc_it (walk_enum (K := K) (a := l) (xs := ns.map V.int)) (fun i H' => Same H H' ∧ TermsAt H' D (tmsN ns i)) ⟨Same.new (Same.refl _) hD, [], upd_same, rfl, fun i r t h => by cases h⟩ (fun i H' _ e => SqL.of (e.1 _ _ hl)) (fun i x H1 H2 hi e y => ?_) (fun H' e => ?_)
    · obtain ⟨s1, rs, hd, rl, ht⟩ := e
      obtain ⟨T, x1, x2, rfl, hT, rfl, e1, e2⟩ := y
      rw [List.length_map] at hi
      obtain rfl := Option.some.inj e1
      replace e2 : (ns.map V.int)[i]? = some x2 := e2
      rw [List.getElem?_map, at0_get hi] at e2
      obtain rfl := Option.some.inj e2
      have s2 := Same.new (o := .tup [V.int (i : Int), V.int (at0 ns i)]) (Same.refl H1) hT
      refine ⟨T, _, rfl, .inl (.inl upd_same), rfl, _, _, rfl, _, _, rfl, rfl, rfl, ?_⟩
      refine ⟨_, rfl, rfl, _, rfl, ?_⟩
      rw [tmsN]
      by_cases z : at0 ns i = 0
      · rw [if_pos z, z]
        refine iteF_ rfl ⟨s1.trans ?_, rs, ?_, rl, fun j r t h1 h2 => ?_⟩
        · rw [z] at s2
          exact s2
        · rw [z] at s2
          exact s2 _ _ hd
        · rw [z] at s2
          exact s2 _ _ (ht j r t h1 h2)
      · rw [if_neg z]
        refine iteT_ (by rw [decide_eq_false fun y => z (V.int.inj y)]; rfl) ?_
        refine ⟨_, rfl, _, rfl, (by show 2 ≤ sizeLine; decide), fun T2 hT2 => ?_⟩
        have s3 := Same.new (o := .tup [V.int (i : Int), V.int (at0 ns i)]) s2 hT2
        have hd3 := s3 _ _ hd
        have n2 : D ≠ T2 := ne_of_none (s2 _ _ hd) hT2
        refine ⟨_, hd3, ?_, ?_, rs ++ [T2], ?_, ?_, fun j r t h1 h2 => ?_⟩
        · rw [List.length_map, rl]
          exact Nat.lt_of_le_of_lt (tmsN_len ns i) (Nat.lt_of_lt_of_le (show i < 1001 by omega) (by decide))
        · exact Same.past (s1.trans s3) hD
        · rw [List.map_append]
          exact upd_same
        · rw [List.length_append, List.length_append, rl]
          rfl
        · have jl : j < rs.length ∨ j = rs.length := by
            have := (List.getElem?_eq_some_iff.mp h1).1
            rw [List.length_append] at this
            have : j < rs.length + 1 := this
            omega
          have nr : ∀ o, (upd (upd H1 T (.tup [V.int (i : Int), V.int (at0 ns i)])) T2 (.tup [V.int (i : Int), V.int (at0 ns i)])) r = some (.tup o) → r ≠ D := fun o q z => by
            rw [z, hd3] at q
            cases q
          rcases jl with jl | rfl
          · rw [List.getElem?_append_left jl] at h1
            rw [List.getElem?_append_left (by omega)] at h2
            have q := s3 _ _ (ht j r t h1 h2)
            rw [upd_ne (nr _ q)]
            exact q
          · rw [List.getElem?_concat_length] at h1
            rw [rl, List.getElem?_concat_length] at h2
            obtain rfl := Option.some.inj h1
            obtain rfl := Option.some.inj h2
            rw [upd_ne (Ne.symm n2)]
            exact upd_same
    · rw [List.length_map] at e
      exact k D H' hD e.1 e.2
end
end Sw
namespace Sw
open PySem PySem.Spec PyProof.Rows L2
theorem rep_zero (n : Nat) : (List.replicate n [V.int 0]).flatten = (mk n fun _ => 0).map V.int := by
  rw [← mk_const, List.map_replicate, List.flatten_replicate_singleton]
theorem mk_ints_set {n i : Nat} {f : Nat → Int} {v : Int} : ((mk n f).map V.int).set i (V.int v) = (mk n fun k => if k = i then v else f k).map V.int := by
  rw [← mk_set, List.map_set]
theorem mk_ints_at {n i : Nat} {f : Nat → Int} (h : i < n) : ((mk n f).map V.int)[i]? = some (V.int (f i)) := by
  rw [List.getElem?_map, mk_get h]
  rfl
theorem mk_ints_len (n : Nat) (f : Nat → Int) : ((mk n f).map V.int).length = n := by rw [List.length_map, mk_len]
theorem ixN_nat {n i : Nat} (h : i < n) : ixN n (i : Int) = some i := by
  unfold ixN
  rw [if_pos (by omega), if_pos (by omega)]
  simp
section
variable {P : Program} {w : World} {K : PySem.W.Frag} {mg : Str → Option Value} {base : Heap} {f f1 f2 f3 f4 f5 f6 f7 f8 f9 C CN CU CD : Addr} {fd fd1 fd2 fd3 fd4 fd5 fd6 fd7 fd8 fd9 : FuncData}
abbrev nAdded : List Str := ["one", "other", "total", "power", "number"]
theorem scAdded : FnScope nAdded ["one", "other"] (defScope sAdded) := ⟨rfl, rfl, rfl, by decide +kernel, rfl, by decide +kernel, by decide +kernel⟩
theorem ok_added (F : FnP K "added" sAdded f fd) (GTr : FnOk P w K mg base CX0 1 f1 fd1 ["numbers"] spTrimmed) (gTr : mg "trimmed" = some (.ref f1)) (kTr : PySem.W.keepIn K (.ref f1) = true) (bTr : Binds K fd1 ["numbers"] [])
    (gLen : mg "len" = none) (gMax : mg "max" = none) (gEnum : mg "enumerate" = none) : FnOk P w K mg base CX0 2 f fd ["one", "other"] spAdded := by
  refine F.ok scAdded (fun vs H Q E h => ?_) (fun cdv A outer s H vs Q E hr h => ?_)
  · obtain ⟨a, b, xs, ys, rfl, _⟩ := h
    rfl
  · obtain ⟨a, b, xs, ys, rfl, ha, hb, fx, fy, k⟩ := h
    have nd := scAdded.nd
    have hr1 : Room 1 _ := hr.mono (by decide)
    refine ⟨_, PSs.nox (pss_cons (ps_set (i := 2) nd rfl (Or.inl rfl) (pe_op op_rep (pe_lst (pa_cons pe_int pa_nil)) (pe_callB (call_max2 rfl) (by rfl) gMax (by decide +kernel) (pa_cons (pe_callB call_len_seq (by rfl) gLen PySem.boot_len (pa_cons (pv 0) pa_nil)) (pa_cons (pe_callB call_len_seq (by rfl) gLen PySem.boot_len (pa_cons (pv 1) pa_nil)) pa_nil)))))
      (pss_cons (ps_for PassesOwn.never rfl (pi_enum rfl gEnum (pa_cons (pv 0) pa_nil)) (pg_tup rfl (pgs_cons (pg_name (i := 3) nd rfl (Or.inl rfl)) (pgs_cons (pg_name (i := 4) nd rfl (Or.inl rfl)) pgs_nil)))
      (pss_one (ps_augS (pv 2) (pv 3) get_list (pv 4) ip_add set_list)))
      (pss_cons (ps_for PassesOwn.never rfl (pi_enum rfl gEnum (pa_cons (pv 1) pa_nil)) (pg_tup rfl (pgs_cons (pg_name (i := 3) nd rfl (Or.inl rfl)) (pgs_cons (pg_name (i := 4) nd rfl (Or.inl rfl)) pgs_nil)))
      (pss_one (ps_augS (pv 2) (pv 3) get_list (pv 4) ip_add set_list)))
      (pss_one (ps_ret (pe_call GTr hr1 rfl gTr kTr bTr .nil pass0 (pa_cons (pv 2) pa_nil))))))), ?_⟩
    refine ⟨(by show 1 ≤ sizeLine; decide), fun l0 h0 => ?_⟩
    have sa := Same.new (o := .lst [V.int 0]) (Same.refl H) h0
    refine ⟨_, rfl, a, _, rfl, .inl (SqL.of (sa _ _ ha)), _, rfl, b, _, rfl, .inl (SqL.of (sa _ _ hb)), _, _, rfl, ?_⟩
    rw [List.length_map, List.length_map]
    have en : (if (ys.length : Int) > (xs.length : Int) then (ys.length : Int) else (xs.length : Int)) = ((max xs.length ys.length : Nat) : Int) := by
      split <;> omega
    rw [en]
    generalize hn : max xs.length ys.length = n
    have nx : xs.length ≤ n := by omega
    have ny : ys.length ≤ n := by omega
    have n100 : n ≤ 100 := by omega
    refine ⟨l0, _, _, rfl, rfl, upd_same, by omega, by omega, ?_, fun t ht => ?_⟩
    · show 1 * _ ≤ _
      exact Nat.le_trans (show 1 * ((n : Nat) : Int).toNat ≤ 100 by omega) (by decide)
    rw [Int.toNat_natCast, rep_zero]
    have sb := Same.new (o := .lst ((mk n fun _ => 0).map V.int)) (Same.refl _) ht
    have st := sa.trans sb
    have nt : H t = none := sa.free ht
    generalize hH1 : upd (upd H l0 (.lst [V.int 0])) t (.lst ((mk n fun _ => 0).map V.int)) = H1 at st
    have h1t : H1 t = some (.lst ((mk n fun _ => 0).map V.int)) := by
      rw [← hH1]
      exact upd_same
    refine ⟨_, rfl, a, _, rfl, SqL.of (st _ _ ha), for_it (walk_enum (K := K) (a := a) (xs := xs.map V.int)) (fun i σ H' => ∃ u3 u4 : Option V, σ = [some (.ref a), some (.ref b), some (.ref t), u3, u4] ∧ Same H H' ∧ H' t = some (.lst ((mk n fun k => if k < i then at0 xs k else 0).map V.int)))
      ⟨none, none, rfl, st, h1t⟩ (fun i σ H' _ e => by obtain ⟨_, _, _, e, _⟩ := e; exact SqL.of (e _ _ ha)) ?_ ?_⟩
    · rintro i x σ H2 H3 hi ⟨u3, u4, rfl, s2, h2t⟩ ⟨T, x1, x2, rfl, hT, rfl, e1, e2⟩
      rw [List.length_map] at hi
      obtain rfl := Option.some.inj e1
      replace e2 : (xs.map V.int)[i]? = some x2 := e2
      rw [List.getElem?_map, at0_get hi] at e2
      obtain rfl := Option.some.inj e2
      have s3 := Same.new (o := .tup [V.int (i : Int), V.int (at0 xs i)]) (Same.refl H2) hT
      have h3t := s3 _ _ h2t
      refine ⟨T, _, rfl, .inl (.inl upd_same), rfl, _, _, rfl, _, _, rfl, rfl, ?_⟩
      refine ⟨_, rfl, _, rfl, t, _, _, _, rfl, rfl, SqL.of h3t, atI_nat (mk_ints_at (by omega)), ?_⟩
      refine ⟨_, rfl, _, _, rfl, rfl, t, _, _, i, rfl, rfl, h3t, ?_, _, _, rfl, Same.past (s2.trans s3) nt, ?_⟩
      · rw [mk_ints_len]
        exact ixN_nat (by omega)
      · rw [upd_same, mk_ints_set]
        congr 3
        refine mk_congr fun k _ => ?_
        by_cases z : k = i
        · subst z
          rw [if_pos rfl, if_neg (by omega), if_pos (by omega)]
          show 0 + _ = _
          omega
        · rw [if_neg z]
          by_cases y : k < i
          · rw [if_pos y, if_pos (by omega)]
          · rw [if_neg y, if_neg (by omega)]
    · rintro σ H2 ⟨u3, u4, rfl, s2, h2t⟩
      rw [List.length_map] at h2t
      refine ⟨_, rfl, b, _, rfl, SqL.of (s2 _ _ hb), for_it (walk_enum (K := K) (a := b) (xs := ys.map V.int)) (fun i σ H' => ∃ u3 u4 : Option V, σ = [some (.ref a), some (.ref b), some (.ref t), u3, u4] ∧ Same H H' ∧ H' t = some (.lst ((mk n fun k => at0 xs k + if k < i then at0 ys k else 0).map V.int)))
        ⟨_, _, rfl, s2, ?_⟩ (fun i σ H' _ e => by obtain ⟨_, _, _, e, _⟩ := e; exact SqL.of (e _ _ hb)) ?_ ?_⟩
      · rw [h2t]
        congr 3
        refine mk_congr fun k _ => ?_
        rw [show (if k < 0 then at0 ys k else 0) = 0 from if_neg (by omega), Int.add_zero]
        split
        · rfl
        · exact (at0_out (by omega)).symm
      · rintro i x σ H2 H3 hi ⟨u3, u4, rfl, s2, h2t⟩ ⟨T, x1, x2, rfl, hT, rfl, e1, e2⟩
        rw [List.length_map] at hi
        obtain rfl := Option.some.inj e1
        replace e2 : (ys.map V.int)[i]? = some x2 := e2
        rw [List.getElem?_map, at0_get hi] at e2
        obtain rfl := Option.some.inj e2
        have s3 := Same.new (o := .tup [V.int (i : Int), V.int (at0 ys i)]) (Same.refl H2) hT
        have h3t := s3 _ _ h2t
        refine ⟨T, _, rfl, .inl (.inl upd_same), rfl, _, _, rfl, _, _, rfl, rfl, ?_⟩
        refine ⟨_, rfl, _, rfl, t, _, _, _, rfl, rfl, SqL.of h3t, atI_nat (mk_ints_at (by omega)), ?_⟩
        refine ⟨_, rfl, _, _, rfl, rfl, t, _, _, i, rfl, rfl, h3t, ?_, _, _, rfl, Same.past (s2.trans s3) nt, ?_⟩
        · rw [mk_ints_len]
          exact ixN_nat (by omega)
        · rw [upd_same, mk_ints_set]
          congr 3
          refine mk_congr fun k _ => ?_
          by_cases z : k = i
          · subst z
            rw [if_pos rfl, if_neg (by omega), if_pos (by omega)]
            show at0 xs k + 0 + _ = _
            omega
          · rw [if_neg z]
            by_cases y : k < i
            · rw [if_pos y, if_pos (by omega)]
            · rw [if_neg y, if_neg (by omega)]
      · rintro σ H3 ⟨u3, u4, rfl, s3, h3t⟩
        refine ⟨_, rfl, t, _, rfl, h3t, ?_, fun p hp => ?_⟩
        · rw [mk_len]
          omega
        refine k p _ (s3.free hp) (Same.new s3 hp) ?_
        rw [upd_same]
        congr 3
        unfold sumL
        rw [hn, List.length_map]
        congr 1
        refine mk_congr fun k _ => ?_
        split
        · rfl
        · rw [at0_out (ns := ys) (by omega)]
end
end Sw
namespace Sw
open PySem PySem.Spec PyProof.Rows L2
theorem take_snoc {α : Type} {l : List α} {i : Nat} {t : α} (h : l[i]? = some t) : l.take (i + 1) = l.take i ++ [t] := by
  rw [List.take_succ, h]
  rfl
theorem TermsAt.keep {H H' : Hp} {l : Addr} {ts : List (Nat × Int)} (h : TermsAt H l ts) (s : Same H H') : TermsAt H' l ts := by
  obtain ⟨rs, h1, h2, h3⟩ := h
  exact ⟨rs, s _ _ h1, h2, fun i r t q1 q2 => s _ _ (h3 i r t q1 q2)⟩
theorem refs_at {rs : List Addr} {i : Nat} {x : V} (h : (rs.map V.ref)[i]? = some x) : ∃ r, x = .ref r ∧ rs[i]? = some r := by
  rw [List.getElem?_map] at h
  obtain ⟨r, h1, h2⟩ := Option.map_eq_some_iff.mp h
  exact ⟨r, h2.symm, h1⟩
theorem Wd.mul {x y : Int} (h : Wd x) (h' : Wd y) : CMulW x y := wide_mul h h' (by decide) (by decide) (by decide)
theorem Wd.at {xs : List Int} (h : ∀ x ∈ xs, Wd x) (k : Nat) : Wd (at0 xs k) := by
  by_cases l : k < xs.length
  · exact h _ (List.mem_of_getElem? (at0_get l))
  · rw [at0_out (by omega)]
    show (0 : Int).natAbs < 2 ^ 200
    decide
section
variable {P : Program} {w : World} {K : PySem.W.Frag} {mg : Str → Option Value} {base : Heap} {f f1 f2 f3 f4 f5 f6 f7 f8 f9 C CN CU CD : Addr} {fd fd1 fd2 fd3 fd4 fd5 fd6 fd7 fd8 fd9 : FuncData}
abbrev nMultiplied : List Str := ["one", "other", "total", "others", "power", "number", "further", "by"]
theorem scMultiplied : FnScope nMultiplied ["one", "other"] (defScope sMultiplied) := ⟨rfl, rfl, rfl, by decide +kernel, rfl, by decide +kernel, by decide +kernel⟩
theorem ok_multiplied (F : FnP K "multiplied" sMultiplied f fd) (GTr : FnOk P w K mg base CX0 1 f1 fd1 ["numbers"] spTrimmed) (gTr : mg "trimmed" = some (.ref f1)) (kTr : PySem.W.keepIn K (.ref f1) = true) (bTr : Binds K fd1 ["numbers"] [])
    (GTe : FnOk P w K mg base CX0 1 f2 fd2 ["polynomial"] spTerms) (gTe : mg "terms" = some (.ref f2)) (kTe : PySem.W.keepIn K (.ref f2) = true) (bTe : Binds K fd2 ["polynomial"] [])
    (gLen : mg "len" = none) : FnOk P w K mg base CX0 2 f fd ["one", "other"] spMul := by
  refine F.ok scMultiplied (fun vs H Q E h => ?_) (fun cdv A ou s H vs Q E hr h => ?_)
  · obtain ⟨a, b, xs, ys, rfl, _⟩ := h
    rfl
  · obtain ⟨a, b, xs, ys, rfl, ha, hb, fx, fy, wx, wy, k⟩ := h
    have nd := scMultiplied.nd
    have hr1 : Room 1 _ := hr.mono (by decide)
    refine ⟨_, PSs.nox (pss_cons (ps_set (i := 2) nd rfl (Or.inl rfl) (pe_op op_rep (pe_lst (pa_cons pe_int pa_nil)) (pe_op op_add (pe_callB call_len_seq (by rfl) gLen PySem.boot_len (pa_cons (pv 0) pa_nil)) (pe_callB call_len_seq (by rfl) gLen PySem.boot_len (pa_cons (pv 1) pa_nil)))))
      (pss_cons (ps_set (i := 3) nd rfl (Or.inl rfl) (pe_call GTe hr1 rfl gTe kTe bTe .nil pass0 (pa_cons (pv 1) pa_nil)))
      (pss_cons (ps_for PassesOwn.never rfl (pi_list (pe_call GTe hr1 rfl gTe kTe bTe .nil pass0 (pa_cons (pv 0) pa_nil))) (pg_tup rfl (pgs_cons (pg_name (i := 4) nd rfl (Or.inl rfl)) (pgs_cons (pg_name (i := 5) nd rfl (Or.inl rfl)) pgs_nil)))
      (pss_one (ps_for PassesOwn.never rfl (pi_list (pv 3)) (pg_tup rfl (pgs_cons (pg_name (i := 6) nd rfl (Or.inl rfl)) (pgs_cons (pg_name (i := 7) nd rfl (Or.inl rfl)) pgs_nil)))
      (pss_one (ps_augS (pv 2) (pe_op op_add (pv 4) (pv 6)) get_list (pe_op op_mulW (pv 5) (pv 7)) ip_add set_list)))))
      (pss_one (ps_ret (pe_call GTr hr1 rfl gTr kTr bTr .nil pass0 (pa_cons (pv 2) pa_nil))))))), ?_⟩
    refine ⟨(by show 1 ≤ sizeLine; decide), fun l0 h0 => ?_⟩
    have sa := Same.new (o := .lst [V.int 0]) (Same.refl H) h0
    refine ⟨_, rfl, a, _, rfl, .inl (SqL.of (sa _ _ ha)), _, rfl, b, _, rfl, .inl (SqL.of (sa _ _ hb)), _, _, rfl, rfl, ?_⟩
    rw [List.length_map, List.length_map]
    obtain ⟨n, hn⟩ : ∃ n, xs.length + ys.length = n := ⟨_, rfl⟩
    refine ⟨l0, (n : Int), _, rfl, by show V.int ((xs.length : Int) + (ys.length : Int)) = _; rw [← hn]; simp, upd_same, by omega, by omega, ?_, fun t ht => ?_⟩
    · show 1 * _ ≤ _
      exact Nat.le_trans (show 1 * ((n : Nat) : Int).toNat ≤ 200 by omega) (by decide)
    rw [Int.toNat_natCast, rep_zero]
    have sb := Same.new (o := .lst ((mk n fun _ => 0).map V.int)) (Same.refl _) ht
    have st := sa.trans sb
    have nt : H t = none := sa.free ht
    generalize hH1 : upd (upd H l0 (.lst [V.int 0])) t (.lst ((mk n fun _ => 0).map V.int)) = H1 at st
    have h1t : H1 t = some (.lst ((mk n fun _ => 0).map V.int)) := by
      rw [← hH1]
      exact upd_same
    refine ⟨_, rfl, b, ys, rfl, st _ _ hb, by omega, fun o2 H2 no2 s2 to2 => ?_⟩
    have t2 := st.trans s2
    refine ⟨_, rfl, a, xs, rfl, t2 _ _ ha, by omega, fun o1 H3 no1 s3 to1 => ?_⟩
    have t3 := t2.trans s3
    have to3 := to2.keep s3
    have h3t := s3 _ _ (s2 _ _ h1t)
    obtain ⟨rs1, q1, ql1, qt1⟩ := to1
    obtain ⟨rs2, q2, ql2, qt2⟩ := to3
    have n1 : o1 ≠ t := fun z => by
      rw [z] at q1
      rw [q1] at h3t
      have := congrArg (fun z : Option HO => match z with | some (.lst (.ref _ :: _)) => false | _ => true) h3t
      rw [z, s2 _ _ h1t] at no1
      cases no1
    have n2 : o2 ≠ t := fun z => by
      rw [z, h1t] at no2
      cases no2
    refine ⟨o1, rfl, ⟨_, SqL.of q1⟩, for_list (K := K) (a := o1) (xs := rs1.map V.ref) (fun i σ H' => ∃ u4 u5 u6 u7 : Option V, σ = [some (.ref a), some (.ref b), some (.ref t), some (.ref o2), u4, u5, u6, u7] ∧ Kept t H3 H' ∧ H' t = some (.lst ((mk n fun k => outer ((tms xs).take i) (tms ys) k).map V.int)))
      ⟨none, none, none, none, rfl, Kept.refl, h3t⟩ (fun i σ H' _ e => by obtain ⟨_, _, _, _, _, e, _⟩ := e; exact SqL.of (e _ _ n1 q1)) ?_ ?_⟩
    · rintro i x σ H4 hx ⟨u4, u5, u6, u7, rfl, k4, h4t⟩
      obtain ⟨r, rfl, hr'⟩ := refs_at hx
      have il : i < (tms xs).length := by
        have := (List.getElem?_eq_some_iff.mp hr').1
        omega
      have ht' : (tms xs)[i]? = some ((tms xs)[i]) := List.getElem?_eq_getElem il
      generalize (tms xs)[i] = tm at ht'
      obtain ⟨pw, nu⟩ := tm
      have hT := qt1 i r _ hr' ht'
      have m1 := tmsN_mem (List.mem_of_getElem? ht')
      have nrt : r ≠ t := fun z => by
        rw [z, h3t] at hT
        cases hT
      refine ⟨r, _, rfl, .inl (.inl (k4 _ _ nrt hT)), rfl, _, _, rfl, _, _, rfl, rfl, ?_⟩
      refine ⟨_, rfl, o2, rfl, ⟨_, SqL.of (k4 _ _ n2 q2)⟩, for_list (K := K) (a := o2) (xs := rs2.map V.ref) (fun j σ H' => ∃ u6 u7 : Option V, σ = [some (.ref a), some (.ref b), some (.ref t), some (.ref o2), some (.int (pw : Int)), some (.int nu), u6, u7] ∧ Kept t H3 H' ∧ H' t = some (.lst ((mk n fun k => outer ((tms xs).take i) (tms ys) k + inner ((tms ys).take j) pw nu k).map V.int)))
        ⟨u6, u7, rfl, k4, ?_⟩ (fun i σ H' _ e => by obtain ⟨_, _, _, e, _⟩ := e; exact SqL.of (e _ _ n2 q2)) ?_ ?_⟩
      · rw [h4t]
        congr 3
        exact mk_congr fun k _ => (Int.add_zero _).symm
      · rintro j y σ H5 hy ⟨u6, u7, rfl, k5, h5t⟩
        obtain ⟨r2, rfl, hr2⟩ := refs_at hy
        have jl : j < (tms ys).length := by
          have := (List.getElem?_eq_some_iff.mp hr2).1
          omega
        have ht2 : (tms ys)[j]? = some ((tms ys)[j]) := List.getElem?_eq_getElem jl
        generalize (tms ys)[j] = tm at ht2
        obtain ⟨fu, by_⟩ := tm
        have hT2 := qt2 j r2 _ hr2 ht2
        have m2 := tmsN_mem (List.mem_of_getElem? ht2)
        have nrt2 : r2 ≠ t := fun z => by
          rw [z, h3t] at hT2
          cases hT2
        have lt : pw + fu < n := by
          have e1 : pw < xs.length := m1.1
          have e2 : fu < ys.length := m2.1
          omega
        have w1 : Wd nu := by
          have e : nu = at0 xs pw := m1.2
          rw [e]
          exact Wd.at wx _
        have w2 : Wd by_ := by
          have e : by_ = at0 ys fu := m2.2
          rw [e]
          exact Wd.at wy _
        refine ⟨r2, _, rfl, .inl (.inl (k5 _ _ nrt2 hT2)), rfl, _, _, rfl, _, _, rfl, rfl, ?_⟩
        refine ⟨_, rfl, _, rfl, _, rfl, _, _, rfl, rfl, ?_⟩
        have ei : V.int ((pw : Int) + (fu : Int)) = V.int ((pw + fu : Nat) : Int) := congrArg V.int (Int.natCast_add _ _).symm
        refine ⟨t, _, ((pw + fu : Nat) : Int), _, rfl, ei, SqL.of h5t, atI_nat (mk_ints_at lt), ?_⟩
        refine ⟨_, rfl, _, rfl, _, _, rfl, rfl, w1.mul w2, _, _, rfl, rfl, t, _, ((pw + fu : Nat) : Int), pw + fu, rfl, ei, h5t, ?_, _, _, rfl, k5.upd, ?_⟩
        · rw [mk_ints_len]
          exact ixN_nat lt
        · rw [upd_same, mk_ints_set]
          congr 3
          refine mk_congr fun k _ => ?_
          have e : inner ((tms ys).take (j + 1)) pw nu k = inner ((tms ys).take j) pw nu k + (if pw + fu = k then nu * by_ else 0) := by
            unfold inner
            rw [take_snoc ht2, sumBy_snoc]
          rw [e]
          by_cases z : k = pw + fu
          · subst z
            rw [if_pos rfl, if_pos rfl]
            exact Int.add_assoc _ _ _
          · rw [if_neg z, if_neg (fun y => z y.symm), Int.add_zero]
      · rintro σ H5 ⟨u6, u7, rfl, k5, h5t⟩
        refine ⟨_, _, _, _, rfl, k5, ?_⟩
        rw [h5t]
        congr 3
        refine mk_congr fun k _ => ?_
        rw [List.length_map, ql2, List.take_length]
        show _ = outer ((tms xs).take (i + 1)) (tms ys) k
        unfold outer
        rw [take_snoc ht', sumBy_snoc]
    · rintro σ H4 ⟨u4, u5, u6, u7, rfl, k4, h4t⟩
      refine ⟨_, rfl, t, _, rfl, h4t, ?_, fun p hp => ?_⟩
      · rw [mk_len]
        omega
      have sF : Same H H4 := Same.kept t3 nt k4
      refine k p _ (sF.free hp) (Same.new sF hp) ?_
      rw [upd_same]
      congr 3
      unfold prodL
      rw [hn, List.length_map, ql1, List.take_length]
      congr 1
      exact mk_congr fun k _ => outer_tms xs ys k
end
end Sw
namespace Sw
open PySem PySem.Spec PyProof.Rows L2
/-! ### the law's own defs: the drawing -/
def spPot (K : PySem.W.Frag) : Sp := fun vs H Q _ => ∃ (a : Addr) (ns : List Int) (k : Nat), vs = [.ref a, .int (k : Int)] ∧ SqL K H a (ns.map V.int) ∧ ∀ (p : Addr) (H' : Hp), H p = none → Same H H' → PotAt H' p → Q (.ref p) H'
def spDigit : Sp := fun vs H Q _ => ∃ (p : Addr) (m : Int), vs = [.ref p, .int m] ∧ PotAt H p ∧ 0 < m ∧ m < 2 ^ 256 ∧ ∀ (d : Int) (H' : Hp), 0 ≤ d → d < m → Kept p H H' → PotAt H' p → Q (.int d) H'
def spNum : Sp := fun vs H Q _ => ∃ p : Addr, vs = [.ref p] ∧ PotAt H p ∧ ∀ (d : Int) (H' : Hp), Wd d → Kept p H H' → PotAt H' p → Q (.int d) H'
def spRow : Sp := fun vs H Q _ => ∃ p : Addr, vs = [.ref p] ∧ PotAt H p ∧ ∀ (l : Addr) (ns : List Int) (H' : Hp), H l = none → ns.length ≤ 8 → (∀ n ∈ ns, Wd n) → Kept p H H' → PotAt H' p → H' l = some (.lst (ns.map V.int)) → Q (.ref l) H'
def spSecond : Sp := fun vs H Q _ => ∃ (p l : Addr) (ms : List Int), vs = [.ref p, .ref l] ∧ l ≠ p ∧ PotAt H p ∧ H l = some (.lst (ms.map V.int)) ∧ ms.length ≤ 8 ∧ (∀ n ∈ ms, Wd n) ∧ ∀ (l : Addr) (ns : List Int) (H' : Hp), H l = none → ns.length ≤ 8 → (∀ n ∈ ns, Wd n) → Kept p H H' → PotAt H' p → H' l = some (.lst (ns.map V.int)) → Q (.ref l) H'
theorem PotAt.ne {H : Hp} {p l : Addr} (h : PotAt H p) (n : H l = none) : l ≠ p := fun z => by
  obtain ⟨_, _, _, _, _, hx⟩ := h
  rw [z, hx] at n
  cases n
theorem Kept.free {p l : Addr} {H H' : Hp} (k : Kept p H H') (hp : PotAt H' p) (h : H' l = none) : H l = none := by
  cases e : H l with
  | none => rfl
  | some o =>
    rw [k l o (hp.ne h) e] at h
    cases h
theorem PotAt.upd {H : Hp} {p l : Addr} {o : HO} (h : PotAt H p) (n : l ≠ p) : PotAt (L2.upd H l o) p := by
  obtain ⟨a, b, h1, h2, h3, h4⟩ := h
  exact ⟨a, b, h1, h2, h3, by rw [upd_ne n.symm]; exact h4⟩
theorem eqv_nil {ns : List Int} (h : ns ≠ []) : PyData.eqv (.list (ns.map PyData.int)) (.list (([] : List Int).map PyData.int)) = false := by
  cases ns with
  | nil => exact absurd rfl h
  | cons a b => rfl
theorem Wd.neg {n : Int} (h : Wd n) : Wd (-n) := by
  unfold Wd at *
  rw [Int.natAbs_neg]
  exact h
section
variable {P : Program} {w : World} {K : PySem.W.Frag} {mg : Str → Option Value} {base : Heap} {f f1 f2 f3 f4 f5 f6 f7 f8 f9 C CN CU CD : Addr} {fd fd1 fd2 fd3 fd4 fd5 fd6 fd7 fd8 fd9 : FuncData}
abbrev nPot : List Str := ["_law_script", "_law_k", "_law_cell"]
theorem scPot : FnScope nPot ["_law_script", "_law_k"] (defScope sPot) := ⟨rfl, rfl, rfl, by decide +kernel, rfl, by decide +kernel, by decide +kernel⟩
theorem ok_pot (F : FnP K "_law_pot" sPot f fd) (gLen : mg "len" = none) (gMax : mg "max" = none) : FnOk P w K mg base CX0 1 f fd ["_law_script", "_law_k"] (spPot K) := by
  refine F.ok scPot (fun vs H Q E h => ?_) (fun cdv A ou s H vs Q E hr h => ?_)
  · obtain ⟨a, ns, k, rfl, _⟩ := h
    rfl
  · obtain ⟨a, ns, k, rfl, hS, kk⟩ := h
    have nd := scPot.nd
    refine ⟨_, PSs.nox (pss_cons (ps_set (i := 2) nd rfl (Or.inl rfl) (pe_ifExp (pt_cmpR op_lt (pv 1) (pe_callB call_len_seq (by rfl) gLen PySem.boot_len (pa_cons (pv 0) pa_nil)) (nomark _)) (pe_ix ix_list (pv 0) (pv 1) (fun _ _ => rfl)) pe_int))
      (pss_one (ps_ret (pe_lst (pa_cons (pe_callB (call_max2 rfl) (by rfl) gMax (by decide +kernel) (pa_cons pe_int (pa_cons (pe_op op_sub (pv 2) (pe_op op_pow pe_int pe_int)) pa_nil))) (pa_cons (pe_op op_mod (pe_op op_add (pe_op op_add (pe_op op_mul (pe_op op_mod (pv 2) pe_int) pe_int) (pe_op op_mul pe_int (pv 1))) pe_int) pe_int) pa_nil)))))), ?_⟩
    have fin : ∀ c : Int, ∀ p, H p = none → Q (.ref p) (upd H p (.lst [.int (if c - 10 ^ 18 > 0 then c - 10 ^ 18 else 0), .int ((c % 2147483587 * 39119 + 7919 * (k : Int) + 41) % 2147483629)])) := fun c p hp => by
      have q0 := Int.emod_nonneg (c % 2147483587 * 39119 + 7919 * (k : Int) + 41) (show (2147483629 : Int) ≠ 0 by decide)
      have q1 := Int.emod_lt_of_pos (c % 2147483587 * 39119 + 7919 * (k : Int) + 41) (show (0 : Int) < 2147483629 by decide)
      refine kk p _ hp (Same.new (Same.refl _) hp) ⟨_, _, ?_, q0, by omega, upd_same⟩
      split <;> omega
    have rest : ∀ c : Int, ∃ y : V, some y = some (V.int c) := fun c => ⟨_, rfl⟩
    refine ⟨_, rfl, _, rfl, a, _, rfl, .inl hS, _, _, rfl, rfl, _, rfl, ?_⟩
    refine ite2 (fun h => ?_) (fun _ => ?_)
    · have h1 := of_decide_eq_true h
      rw [List.length_map] at h1
      have h2 : k < ns.length := by omega
      refine ⟨_, rfl, _, rfl, a, _, _, V.int (ns[k]), rfl, rfl, hS, atI_nat ?_, ?_⟩
      · rw [List.getElem?_map, List.getElem?_eq_getElem h2]
        rfl
      refine ⟨_, rfl, _, _, rfl, rfl, ⟨by decide, by decide, by decide⟩, _, _, rfl, rfl, _, _, rfl, ?_⟩
      refine ⟨_, rfl, _, _, rfl, rfl, (by show (0 : Int) < _; decide), _, _, rfl, rfl, .inr ⟨by decide, by decide⟩, _, rfl, _, _, rfl, rfl, .inl ⟨by decide, by decide⟩, _, _, rfl, rfl, _, _, rfl, rfl, _, _, rfl, rfl, (by show (0 : Int) < _; decide), ?_⟩
      exact ⟨(by show 2 ≤ sizeLine; decide), fun p hp => fin _ p hp⟩
    · refine ⟨_, rfl, _, _, rfl, rfl, ⟨by decide, by decide, by decide⟩, _, _, rfl, rfl, _, _, rfl, ?_⟩
      refine ⟨_, rfl, _, _, rfl, rfl, (by show (0 : Int) < _; decide), _, _, rfl, rfl, .inr ⟨by decide, by decide⟩, _, rfl, _, _, rfl, rfl, .inl ⟨by decide, by decide⟩, _, _, rfl, rfl, _, _, rfl, rfl, _, _, rfl, rfl, (by show (0 : Int) < _; decide), ?_⟩
      exact ⟨(by show 2 ≤ sizeLine; decide), fun p hp => fin _ p hp⟩
theorem div_wide {i m : Int} (h0 : 0 < m) (h1 : m < 2 ^ 256) : CDivW i m := wide_div (b := 256) h0 (by omega) (by decide) (by decide)
abbrev nLDigit : List Str := ["_law_pot_here", "_law_many", "_law_digit_here"]
theorem scLDigit : FnScope nLDigit ["_law_pot_here", "_law_many"] (defScope sLDigit) := ⟨rfl, rfl, rfl, by decide +kernel, rfl, by decide +kernel, by decide +kernel⟩
theorem ok_digit (F : FnP K "_law_digit" sLDigit f fd) (gDm : mg "divmod" = none) : FnOk P w K mg base CX0 1 f fd ["_law_pot_here", "_law_many"] spDigit := by
  refine F.ok scLDigit (fun vs H Q E h => ?_) (fun cdv A ou s H vs Q E hr h => ?_)
  · obtain ⟨p, m, rfl, _⟩ := h
    rfl
  · obtain ⟨p, m, rfl, ⟨a, b, a0, b0, b1, hp⟩, m0, m1, kk⟩ := h
    have nd := scLDigit.nd
    refine ⟨_, PSs.nox (pss_cons (ps_if (pt_cmpR op_gt (pe_ix ix_list (pv 0) pe_int (fun _ _ => rfl)) pe_int (nomark _)) (pss_cons (ps_asg (pe_callB call_divmodW (by rfl) gDm (by decide +kernel) (pa_cons (pe_ix ix_list (pv 0) pe_int (fun _ _ => rfl)) (pa_cons (pv 1) pa_nil))) (pg_tup rfl (pgs_cons (pg_sub (pv 0) pe_int set_list (by intro _; rfl)) (pgs_cons (pg_name (i := 2) nd rfl (Or.inl rfl)) pgs_nil))))
      (pss_one (ps_ret (pv 2)))) pss_nil)
      (pss_cons (ps_asg (pe_op op_mod (pe_op op_add (pe_op op_mul (pe_ix ix_list (pv 0) pe_int (fun _ _ => rfl)) pe_int) pe_int) pe_int) (pg_sub (pv 0) pe_int set_list (by intro _; rfl)))
      (pss_one (ps_ret (pe_op op_mod (pe_op op_fdiv (pe_op op_mod (pe_op op_mul (pe_ix ix_list (pv 0) pe_int (fun _ _ => rfl)) (pe_ix ix_list (pv 0) pe_int (fun _ _ => rfl))) pe_int) pe_int) (pv 1)))))), ?_⟩
    refine ⟨_, rfl, p, _, _, _, rfl, rfl, SqL.of hp, atI_nat (j := 0) rfl, _, _, rfl, rfl, _, rfl, ?_⟩
    refine ite2 (fun h => ?_) (fun _ => ?_)
    · refine ⟨_, rfl, p, _, _, _, rfl, rfl, SqL.of hp, atI_nat (j := 0) rfl, _, rfl, _, _, rfl, div_wide m0 m1, fun t ht => ?_⟩
      have np : t ≠ p := fun z => by
        rw [z, hp] at ht
        cases ht
      have hp' : (upd H t (.tup [V.int (a / m), V.int (a % m)])) p = some (.lst [V.int a, V.int b]) := by
        rw [upd_ne np.symm]
        exact hp
      refine ⟨t, _, rfl, .inl (.inl upd_same), rfl, _, _, rfl, ⟨_, rfl, p, _, _, 0, rfl, rfl, hp', rfl, _, _, rfl, rfl, ?_⟩⟩
      exact ⟨_, rfl, kk _ _ (Int.emod_nonneg _ (by omega)) (Int.emod_lt_of_pos _ m0) ((Kept.new Kept.refl ht).upd) ⟨_, _, Int.ediv_nonneg a0 (by omega), b0, b1, upd_same⟩⟩
    · refine ⟨_, rfl, p, _, _, _, rfl, rfl, SqL.of hp, atI_nat (j := 1) rfl, _, _, rfl, rfl, .inr ⟨by decide, by decide⟩, _, _, rfl, rfl, _, _, rfl, rfl, (by show (0 : Int) < _; decide), ?_⟩
      refine ⟨_, rfl, p, _, _, 1, rfl, rfl, hp, rfl, ?_⟩
      have c0 := Int.emod_nonneg (b * 40487 + 12289) (show (2147483629 : Int) ≠ 0 by decide)
      have c1 := Int.emod_lt_of_pos (b * 40487 + 12289) (show (0 : Int) < 2147483629 by decide)
      have hq : (upd H p (.lst ([V.int a, V.int b].set 1 (V.int ((b * 40487 + 12289) % 2147483629))))) p = some (.lst [V.int a, V.int ((b * 40487 + 12289) % 2147483629)]) := upd_same
      refine ⟨_, rfl, p, _, _, _, rfl, rfl, SqL.of hq, atI_nat (j := 1) rfl, _, rfl, p, _, _, _, rfl, rfl, SqL.of hq, atI_nat (j := 1) rfl, _, _, rfl, rfl, .inl ⟨by omega, by omega⟩, ?_⟩
      refine ⟨_, _, rfl, rfl, (by show (0 : Int) < _; decide), _, _, rfl, rfl, ⟨by decide, by decide⟩, _, rfl, _, _, rfl, rfl, m0, ?_⟩
      exact kk _ _ (Int.emod_nonneg _ (by omega)) (Int.emod_lt_of_pos _ m0) (Kept.upd Kept.refl) ⟨_, _, a0, c0, by omega, hq⟩
abbrev nLSmall : List Str := ["_law_pot_here"]
theorem scLSmall : FnScope nLSmall ["_law_pot_here"] (defScope sLSmall) := ⟨rfl, rfl, rfl, by decide +kernel, rfl, by decide +kernel, by decide +kernel⟩
theorem ok_small (F : FnP K "_law_small" sLSmall f fd) (GDi : FnOk P w K mg base CX0 1 f1 fd1 ["_law_pot_here", "_law_many"] spDigit) (gDi : mg "_law_digit" = some (.ref f1)) (kDi : PySem.W.keepIn K (.ref f1) = true) (bDi : Binds K fd1 ["_law_pot_here", "_law_many"] []) : FnOk P w K mg base CX0 2 f fd ["_law_pot_here"] spNum := by
  refine F.ok scLSmall (fun vs H Q E h => ?_) (fun cdv A ou s H vs Q E hr h => ?_)
  · obtain ⟨p, rfl, _⟩ := h
    rfl
  · obtain ⟨p, rfl, hp, kk⟩ := h
    have nd := scLSmall.nd
    have hr1 : Room 1 _ := hr.mono (by decide)
    refine ⟨_, PSs.nox (pss_one (ps_ret (pe_op op_sub (pe_call GDi hr1 rfl gDi kDi bDi .nil pass0 (pa_cons (pv 0) (pa_cons pe_int pa_nil))) pe_int))), ?_⟩
    refine ⟨_, rfl, p, _, rfl, hp, by decide, by decide, fun d H1 d0 d1 k1 hp1 => ?_⟩
    refine ⟨_, _, rfl, rfl, kk _ _ ?_ k1 hp1⟩
    unfold Wd
    omega
abbrev nNumber : List Str := ["_law_pot_here"]
theorem scNumber : FnScope nNumber ["_law_pot_here"] (defScope sNumber) := ⟨rfl, rfl, rfl, by decide +kernel, rfl, by decide +kernel, by decide +kernel⟩
theorem ok_number (F : FnP K "_law_number" sNumber f fd) (GDi : FnOk P w K mg base CX0 1 f1 fd1 ["_law_pot_here", "_law_many"] spDigit) (gDi : mg "_law_digit" = some (.ref f1)) (kDi : PySem.W.keepIn K (.ref f1) = true) (bDi : Binds K fd1 ["_law_pot_here", "_law_many"] [])
    (GSm : FnOk P w K mg base CX0 2 f2 fd2 ["_law_pot_here"] spNum) (gSm : mg "_law_small" = some (.ref f2)) (kSm : PySem.W.keepIn K (.ref f2) = true) (bSm : Binds K fd2 ["_law_pot_here"] []) : FnOk P w K mg base CX0 3 f fd ["_law_pot_here"] spNum := by
  refine F.ok scNumber (fun vs H Q E h => ?_) (fun cdv A ou s H vs Q E hr h => ?_)
  · obtain ⟨p, rfl, _⟩ := h
    rfl
  · obtain ⟨p, rfl, hp, kk⟩ := h
    have nd := scNumber.nd
    have hr1 : Room 1 _ := hr.mono (by decide)
    have hr2 : Room 2 _ := hr.mono (by decide)
    refine ⟨_, PSs.nox (pss_cons (ps_if (pt_cmpR op_eq (pe_call GDi hr1 rfl gDi kDi bDi .nil pass0 (pa_cons (pv 0) (pa_cons pe_int pa_nil))) pe_int (nomark _)) (pss_one (ps_ret (pe_op op_add (pe_op op_sub (pe_call GDi hr1 rfl gDi kDi bDi .nil pass0 (pa_cons (pv 0) (pa_cons (pe_op op_sub (pe_op op_mul pe_int (pe_op op_pow pe_int pe_int)) pe_int) pa_nil))) (pe_op op_pow pe_int pe_int)) pe_int))) pss_nil)
      (pss_one (ps_ret (pe_call GSm hr2 rfl gSm kSm bSm .nil pass0 (pa_cons (pv 0) pa_nil))))), ?_⟩
    refine ⟨_, rfl, p, _, rfl, hp, by decide, by decide, fun d H1 d0 d1 k1 hp1 => ?_⟩
    refine ⟨rfl, _, rfl, ?_⟩
    refine ite2 (fun h => ?_) (fun h => ?_)
    · refine ⟨_, rfl, _, _, rfl, rfl, ⟨by decide, by decide, by decide⟩, _, _, rfl, rfl, .inl ⟨by decide, by decide⟩, _, _, rfl, rfl, ?_⟩
      refine ⟨p, _, rfl, hp1, by decide, by decide, fun e H2 e0 e1 k2 hp2 => ?_⟩
      refine ⟨_, _, rfl, rfl, ⟨by decide, by decide, by decide⟩, _, _, rfl, rfl, _, _, rfl, rfl, kk _ _ ?_ (k1.trans k2) hp2⟩
      replace e1 : e < 2 * 10 ^ 60 - 1 := e1
      show (e - 10 ^ 60 + 1).natAbs < 2 ^ 200
      omega
    · exact ⟨_, rfl, p, rfl, hp1, fun e H2 we k2 hp2 => kk _ _ we (k1.trans k2) hp2⟩
abbrev nLRow : List Str := ["_law_pot_here", "_law_found", "_law_k"]
theorem scLRow : FnScope nLRow ["_law_pot_here"] (defScope sLRow) := ⟨rfl, rfl, rfl, by decide +kernel, rfl, by decide +kernel, by decide +kernel⟩
theorem ok_row (F : FnP K "_law_row" sLRow f fd) (GDi : FnOk P w K mg base CX0 1 f1 fd1 ["_law_pot_here", "_law_many"] spDigit) (gDi : mg "_law_digit" = some (.ref f1)) (kDi : PySem.W.keepIn K (.ref f1) = true) (bDi : Binds K fd1 ["_law_pot_here", "_law_many"] [])
    (GNu : FnOk P w K mg base CX0 3 f2 fd2 ["_law_pot_here"] spNum) (gNu : mg "_law_number" = some (.ref f2)) (kNu : PySem.W.keepIn K (.ref f2) = true) (bNu : Binds K fd2 ["_law_pot_here"] []) (gRange : mg "range" = none) : FnOk P w K mg base CX0 4 f fd ["_law_pot_here"] spRow := by
  refine F.ok scLRow (fun vs H Q E h => ?_) (fun cdv A ou s H vs Q E hr h => ?_)
  · obtain ⟨p, rfl, _⟩ := h
    rfl
  · obtain ⟨p, rfl, hp, kk⟩ := h
    have nd := scLRow.nd
    have hr1 : Room 1 _ := hr.mono (by decide)
    have hr3 : Room 3 _ := hr.mono (by decide)
    have hu := hr.units
    refine ⟨_, PSs.nox (pss_cons (ps_setLc (i := 1) (own := [("_law_k", 2)]) (g := (gName 2)) (tt := tYes) rfl nd rfl rfl (sw_true rfl rfl rfl rfl) (pi_range1 rfl gRange (pa_cons (pe_call GDi hr1 rfl gDi kDi bDi .nil pass0 (pa_cons (pv 0) (pa_cons pe_int pa_nil))) pa_nil)) (blkOk_by (N := nLRow) (sc := defScope sLRow) (by decide +kernel))
        (fun _ _ _ _ _ => (pg_name (i := 2) nd rfl (Or.inl rfl))) (fun _ _ _ _ _ => pts_nil) (fun _ _ _ _ _ => (pe_call GNu hr3 rfl gNu kNu bNu .nil pass0 (pa_cons (pv 0) pa_nil))))
      (pss_cons (ps_if (PW.pt (pw_and (pt_cmpR (op_neD hu) (pv 1) (pe_lst pa_nil) (nomark _)) (pw_and1 (pt_cmpR op_eq (pe_ix ix_list (pv 1) (pe_un un_neg pe_int) (fun _ _ => rfl)) pe_int (nomark _))))) (pss_one (ps_asg (pe_op op_add pe_int (pe_call GDi hr1 rfl gDi kDi bDi .nil pass0 (pa_cons (pv 0) (pa_cons pe_int pa_nil)))) (pg_sub (pv 1) (pe_un un_neg pe_int) set_list (by intro _; rfl)))) pss_nil)
      (pss_one (ps_ret (pv 1))))), ?_⟩
    refine ⟨_, rfl, p, _, rfl, hp, by decide, by decide, fun d H1 d0 d1 k1 hp1 => ?_⟩
    refine ⟨_, rfl, by omega, by omega, fun D hD => ?_⟩
    have nD := hp1.ne hD
    have nH : H D = none := by
      cases e : H D with
      | none => rfl
      | some o =>
        rw [k1 D o nD e] at hD
        cases hD
    refine lc_range (fun i H' => ∃ ns : List Int, ns.length = i ∧ H' D = some (.lst (ns.map V.int)) ∧ Kept p H H' ∧ PotAt H' p ∧ ∀ n ∈ ns, Wd n) ⟨[], rfl, upd_same, k1.new hD, hp1.keep (Same.new (Same.refl _) hD), fun _ h => (List.not_mem_nil h).elim⟩ (fun i H' hi e => ?_) (fun H' e => ?_)
    · obtain ⟨ns, en, hd, kk, hpp, hn⟩ := e
      refine ⟨rfl, ?_⟩
      refine yes_ite ?_
      refine ⟨_, rfl, p, rfl, hpp, fun x H2 wx k2 hp2 => ?_⟩
      have hd2 := k2 _ _ nD hd
      refine ⟨_, hd2, ?_, ns ++ [x], ?_, ?_, (kk.trans k2).past nH, hp2.upd nD, fun n hm => ?_⟩
      · rw [List.length_map, en]
        exact Nat.lt_of_lt_of_le (show i < 200 by omega) (by decide)
      · rw [List.length_append, en]
        rfl
      · rw [List.map_append]
        exact upd_same
      · rcases List.mem_append.mp hm with h | h
        · exact hn n h
        · rcases List.mem_cons.mp h with rfl | h
          · exact wx
          · cases h
    · obtain ⟨ns, en, hd, k2, hpp, hn⟩ := e
      refine ⟨_, rfl, (by show 0 ≤ sizeLine; decide), fun l0 h0 => ?_⟩
      have s0 := Same.new (o := .lst []) (Same.refl H') h0
      refine ⟨_, _, dp_at (s0 _ _ hd), dp_at (ns := []) upd_same, shaped_ints _, shaped_ints [], ?_⟩
      refine ⟨_, rfl, ?_⟩
      have n0 : H l0 = none := by
        cases e : H l0 with
        | none => rfl
        | some o =>
          rw [k2 l0 o (hpp.ne h0) e] at h0
          cases h0
      rcases List.eq_nil_or_concat ns with rfl | ⟨c1, here, rfl⟩
      · refine iteF_ (by rw [eqv_ints []]; rfl) (iteF_ rfl ?_)
        exact ⟨_, rfl, kk D [] _ nH (by decide) hn (k2.past n0) (hpp.upd (hpp.ne h0)) (s0 _ _ hd)⟩
      · rw [List.concat_eq_append] at hd hn en ⊢
        have ne : PyData.eqv (.list ((c1 ++ [here]).map PyData.int)) (.list (([] : List Int).map PyData.int)) = false := eqv_nil (by simp)
        rw [ne]
        refine iteT_ rfl ?_
        have hd' : H' D = some (.lst (c1.map V.int ++ [V.int here])) := by
          rw [List.map_append] at hd
          exact hd
        refine ⟨_, rfl, _, rfl, D, _, _, _, rfl, rfl, SqL.of (s0 _ _ hd'), atI_last _ _, rfl, _, rfl, ?_⟩
        by_cases z : here = 0
        · refine iteT_ (by rw [z]; rfl) ?_
          refine ⟨_, rfl, p, _, rfl, hpp.upd (hpp.ne h0), by decide, by decide, fun e H3 e0 e1 k3 hp3 => ?_⟩
          have hd3 := k3 _ _ nD (s0 _ _ hd')
          refine ⟨_, _, rfl, rfl, _, rfl, _, rfl, D, _, _, c1.length, rfl, rfl, hd3, ?_, ?_⟩
          · unfold ixN
            rw [List.length_append, List.length_map, if_neg (by decide), if_pos (by show -((c1.length + 1 : Nat) : Int) ≤ -1; omega)]
            congr 1
            show (-1 + ((c1.length + 1 : Nat) : Int)).toNat = _
            omega
          have es : (c1.map V.int ++ [V.int here]).set c1.length (V.int (1 + e)) = (c1 ++ [1 + e]).map V.int := by
            rw [List.set_append_right _ _ (by rw [List.length_map]; omega), List.length_map, Nat.sub_self, List.map_append]
            rfl
          rw [es]
          refine ⟨_, rfl, kk D (c1 ++ [1 + e]) _ nH ?_ (fun n hm => ?_) (((k2.past n0).trans k3).past nH) (hp3.upd nD) upd_same⟩
          · rw [List.length_append] at en ⊢
            replace en : c1.length + 1 = d.toNat := en
            show c1.length + 1 ≤ 8
            omega
          · rcases List.mem_append.mp hm with h | h
            · exact hn n (List.mem_append_left _ h)
            · rcases List.mem_cons.mp h with rfl | h
              · unfold Wd
                omega
              · cases h
        · refine iteF_ (decide_eq_false fun y => z (V.int.inj y)) ?_
          refine ⟨_, rfl, kk D (c1 ++ [here]) _ nH ?_ hn (k2.past n0) (hpp.upd (hpp.ne h0)) (s0 _ _ hd)⟩
          omega
end
end Sw
namespace Sw
open PySem PySem.Spec PyProof.Rows L2
def spEnded : Sp := fun vs H Q _ => ∃ (l : Addr) (ns : List Int), vs = [.ref l] ∧ H l = some (.lst (ns.map V.int)) ∧ ns.length ≤ 1000 ∧ ∀ p H', (p = l ∨ H p = none) → Same H H' → H' p = some (.lst ((trim ns).map V.int)) → Q (.ref p) H'
def spAt (K : PySem.W.Frag) : Sp := fun vs H Q _ => ∃ (l : Addr) (ns : List Int) (k : Nat), vs = [.ref l, .int (k : Int)] ∧ H l = some (.lst (ns.map V.int)) ∧ ns.length ≤ 1000 ∧ k ≤ 1000 ∧ ∀ H', Same H H' → Q (.int (at0 ns k)) H'
theorem at0_pad (ns : List Int) (k m : Nat) (h : k < m) : (ns.map V.int ++ (List.replicate m [V.int 0]).flatten)[k]? = some (V.int (at0 ns k)) := by
  by_cases l : k < ns.length
  · rw [List.getElem?_append_left (by rw [List.length_map]; exact l), List.getElem?_map, at0_get l]
    rfl
  · rw [List.getElem?_append_right (by rw [List.length_map]; omega), List.length_map, List.flatten_replicate_singleton, List.getElem?_replicate, if_pos (by omega), at0_out (by omega)]
theorem three_at {x : Int} {d : Int} (h0 : 0 ≤ d) (h3 : d < 3) : ∃ y : Int, atI [V.int (-x), V.int x, V.int (-x)] d = some (V.int y) ∧ (y = x ∨ y = -x) := by
  have : d = 0 ∨ d = 1 ∨ d = 2 := by omega
  rcases this with rfl | rfl | rfl
  · exact ⟨_, rfl, .inr rfl⟩
  · exact ⟨_, rfl, .inl rfl⟩
  · exact ⟨_, rfl, .inr rfl⟩
section
variable {P : Program} {w : World} {K : PySem.W.Frag} {mg : Str → Option Value} {base : Heap} {f f1 f2 f3 f4 f5 f6 f7 f8 f9 C CN CU CD : Addr} {fd fd1 fd2 fd3 fd4 fd5 fd6 fd7 fd8 fd9 : FuncData}
abbrev nLSecond : List Str := ["_law_pot_here", "_law_row_here", "_law_one"]
theorem scLSecond : FnScope nLSecond ["_law_pot_here", "_law_row_here"] (defScope sLSecond) := ⟨rfl, rfl, rfl, by decide +kernel, rfl, by decide +kernel, by decide +kernel⟩
theorem ok_second (F : FnP K "_law_second" sLSecond f fd) (GDi : FnOk P w K mg base CX0 1 f1 fd1 ["_law_pot_here", "_law_many"] spDigit) (gDi : mg "_law_digit" = some (.ref f1)) (kDi : PySem.W.keepIn K (.ref f1) = true) (bDi : Binds K fd1 ["_law_pot_here", "_law_many"] [])
    (GRo : FnOk P w K mg base CX0 4 f2 fd2 ["_law_pot_here"] spRow) (gRo : mg "_law_row" = some (.ref f2)) (kRo : PySem.W.keepIn K (.ref f2) = true) (bRo : Binds K fd2 ["_law_pot_here"] []) : FnOk P w K mg base CX0 5 f fd ["_law_pot_here", "_law_row_here"] spSecond := by
  refine F.ok scLSecond (fun vs H Q E h => ?_) (fun cdv A ou s H vs Q E hr h => ?_)
  · obtain ⟨p, l, ms, rfl, _⟩ := h
    rfl
  · obtain ⟨p, l, ms, rfl, nl, hp, hl, lm, wm, kk⟩ := h
    have nd := scLSecond.nd
    have hr1 : Room 1 _ := hr.mono (by decide)
    have hr4 : Room 4 _ := hr.mono (by decide)
    refine ⟨_, PSs.nox (pss_cons (ps_if (pt_cmpR op_eq (pe_call GDi hr1 rfl gDi kDi bDi .nil pass0 (pa_cons (pv 0) (pa_cons pe_int pa_nil))) pe_int (nomark _)) (pss_one (ps_ret (pe_call GRo hr4 rfl gRo kRo bRo .nil pass0 (pa_cons (pv 0) pa_nil)))) pss_nil)
      (pss_one (ps_ret (pe_lc (own := [("_law_one", 2)]) (g := (gName 2)) (tt := tYes) rfl nd (pi_list (pv 1)) (blkOk_by (N := nLSecond) (sc := defScope sLSecond) (by decide +kernel))
        (fun _ _ _ _ _ => (pg_name (i := 2) nd rfl (Or.inl rfl))) (fun _ _ _ _ _ => pts_nil) (fun _ _ _ _ _ => (pe_ix (ix_listK (K := K) rfl) (pe_lst (pa_cons (pe_un un_neg (pv 2)) (pa_cons (pv 2) (pa_cons (pe_un un_neg (pv 2)) pa_nil)))) (pe_call GDi hr1 rfl gDi kDi bDi .nil pass0 (pa_cons (pv 0) (pa_cons pe_int pa_nil))) (fun _ _ => rfl))))))), ?_⟩
    refine ⟨_, rfl, p, _, rfl, hp, by decide, by decide, fun d H1 d0 d1 k1 hp1 => ?_⟩
    refine ⟨rfl, _, rfl, ?_⟩
    refine ite2 (fun h => ?_) (fun h => ?_)
    · exact ⟨_, rfl, p, rfl, hp1, fun m ns H2 nm ln wn k2 hp2 hm => kk m ns H2 (k1.free hp1 nm) ln wn (k1.trans k2) hp2 hm⟩
    · have hl1 := k1 _ _ nl hl
      refine ⟨_, rfl, l, rfl, ⟨_, SqL.of hl1⟩, fun D hD => ?_⟩
      have nD := hp1.ne hD
      have nH := k1.free hp1 hD
      refine lc_list (K := K) (a := l) (xs := ms.map V.int) (fun i H' => ∃ ns : List Int, ns.length = i ∧ H' D = some (.lst (ns.map V.int)) ∧ Kept p H H' ∧ PotAt H' p ∧ ∀ n ∈ ns, Wd n) ⟨[], rfl, upd_same, k1.new hD, hp1.upd nD, fun _ h => (List.not_mem_nil h).elim⟩ (fun i H' _ e => by obtain ⟨_, _, _, e, _⟩ := e; exact SqL.of (e _ _ nl hl)) (fun i x H' hx e => ?_) (fun H' e => ?_)
      · obtain ⟨ns, en, hd, k2, hp2, wn⟩ := e
        rw [List.getElem?_map] at hx
        obtain ⟨u, hu, rfl⟩ := Option.map_eq_some_iff.mp hx
        have wu : Wd u := wm u (List.mem_of_getElem? hu)
        have il : i < ms.length := (List.getElem?_eq_some_iff.mp hu).1
        refine ⟨rfl, ?_⟩
        refine yes_ite ?_
        refine ⟨_, rfl, _, rfl, _, rfl, _, rfl, _, rfl, (by show 3 ≤ sizeLine; decide), fun q hq => ?_⟩
        have nq := hp2.ne hq
        have sq := Same.new (o := .lst [V.int (-u), V.int u, V.int (-u)]) (Same.refl H') hq
        refine ⟨_, rfl, p, _, rfl, hp2.upd nq, by decide, by decide, fun e H3 e0 e1 k3 hp3 => ?_⟩
        obtain ⟨y, ey, wy⟩ := three_at (x := u) e0 e1
        refine ⟨q, _, _, _, rfl, rfl, SqL.of (k3 _ _ nq upd_same), ey, ?_⟩
        have hd3 := k3 _ _ nD (sq _ _ hd)
        refine ⟨_, hd3, ?_, ns ++ [y], ?_, ?_, (((k2.past (k2.free hp2 hq)).trans k3).past nH), hp3.upd nD, fun n hm => ?_⟩
        · rw [List.length_map, en]
          exact Nat.lt_of_lt_of_le (show i < 200 by omega) (by decide)
        · rw [List.length_append, en]
          rfl
        · rw [List.map_append]
          exact upd_same
        · rcases List.mem_append.mp hm with h | h
          · exact wn n h
          · rcases List.mem_cons.mp h with rfl | h
            · rcases wy with rfl | rfl
              · exact wu
              · exact wu.neg
            · cases h
      · obtain ⟨ns, en, hd, k2, hp2, wn⟩ := e
        rw [List.length_map] at en
        exact kk D ns H' nH (by omega) wn k2 hp2 hd
abbrev nLEnded : List Str := ["_law_row_here"]
theorem scLEnded : FnScope nLEnded ["_law_row_here"] (defScope sLEnded) := ⟨rfl, rfl, rfl, by decide +kernel, rfl, by decide +kernel, by decide +kernel⟩
theorem ok_ended (F : FnP K "_law_ended" sLEnded f fd) : FnOk P w K mg base CX0 1 f fd ["_law_row_here"] spEnded := by
  refine F.ok scLEnded (fun vs H Q E h => ?_) (fun cdv A ou s H vs Q E hr h => ?_)
  · obtain ⟨l, ns, rfl, _⟩ := h
    rfl
  · obtain ⟨l, ns, rfl, hl, few, kk⟩ := h
    have nd := scLEnded.nd
    have hu := hr.units
    refine ⟨_, PSs.nox (pss_cons (ps_while PassesOwn.never (PW.pt (pw_and (pt_cmpR (op_neD hu) (pv 0) (pe_lst pa_nil) (nomark _)) (pw_and1 (pt_cmpR op_eq (pe_ix ix_list (pv 0) (pe_un un_neg pe_int) (fun _ _ => rfl)) pe_int (nomark _)))))
      (pss_one (ps_set (i := 0) nd rfl (Or.inl rfl) (pe_slice sl_list (pv 0) po_none (po_some (pe_un un_neg pe_int))))))
      (pss_one (ps_ret (pv 0)))), ?_⟩
    refine ⟨fun m σ H' => ∃ r : Addr, m ≤ ns.length ∧ σ = [some (.ref r)] ∧ (r = l ∨ H r = none) ∧ Same H H' ∧ H' r = some (.lst ((ns.take m).map V.int)) ∧ trimN ns m = trimN ns ns.length, ⟨ns.length, l, Nat.le_refl _, rfl, .inl rfl, Same.refl _, by rw [List.take_length]; exact hl, rfl⟩, ?_⟩
    rintro e σ H' ⟨r, le, rfl, hr0, s1, hr1, et⟩
    refine ⟨_, rfl, (by show 0 ≤ sizeLine; decide), fun l0 h0 => ?_⟩
    have s0 := Same.new (o := .lst []) (Same.refl H') h0
    refine ⟨_, _, dp_at (s0 _ _ hr1), dp_at (ns := []) upd_same, shaped_ints _, shaped_ints [], ?_⟩
    refine ⟨_, rfl, ?_⟩
    have out : trimN ns e = e → Q (.ref r) (upd H' l0 (.lst [])) := fun z => by
      refine kk r _ hr0 (s1.trans s0) ?_
      rw [s0 _ _ hr1]
      unfold trim
      rw [← et, z]
    cases e with
    | zero =>
      refine iteF_ (by show (!PyData.eqv (.list (([] : List Int).map PyData.int)) (.list (([] : List Int).map PyData.int))) = false; rw [eqv_ints []]; rfl) (iteF_ rfl ?_)
      exact ⟨_, rfl, out rfl⟩
    | succ n =>
      have nl : n < ns.length := by omega
      have e1 : ns.take (n + 1) = ns.take n ++ [at0 ns n] := take_snoc (at0_get nl)
      have ne : PyData.eqv (.list ((ns.take (n + 1)).map PyData.int)) (.list (([] : List Int).map PyData.int)) = false := eqv_nil (by rw [e1]; simp)
      rw [ne]
      refine iteT_ rfl ?_
      have hr2 : (upd H' l0 (.lst [])) r = some (.lst ((ns.take n).map V.int ++ [V.int (at0 ns n)])) := by
        rw [s0 _ _ hr1, e1, List.map_append]
        rfl
      refine ⟨_, rfl, _, rfl, r, _, _, _, rfl, rfl, SqL.of hr2, atI_last _ _, rfl, _, rfl, ?_⟩
      rw [trimN] at et out
      by_cases z : at0 ns n = 0
      · rw [if_pos z] at et
        refine iteT_ (by rw [z]; rfl) ?_
        refine ⟨fun σ' H'' => ∃ m', m' < n + 1 ∧ ∃ r : Addr, m' ≤ ns.length ∧ σ' = [some (.ref r)] ∧ (r = l ∨ H r = none) ∧ Same H H'' ∧ H'' r = some (.lst ((ns.take m').map V.int)) ∧ trimN ns m' = trimN ns ns.length, fun _ _ h => h, ?_⟩
        refine ⟨_, rfl, _, rfl, _, rfl, r, _, rfl, SqL.of hr2, fun q hq => ?_⟩
        refine ⟨n, by omega, q, by omega, rfl, .inr ((s1.trans s0).free hq), Same.new (s1.trans s0) hq, ?_, et⟩
        rw [upd_same]
        congr 2
        unfold cutV
        rw [HT.sIx_none, List.drop_zero, Nat.sub_zero]
        have e2 : HT.sIx ((ns.take n).map V.int ++ [V.int (at0 ns n)]).length ((ns.take n).map V.int ++ [V.int (at0 ns n)]).length (some (-1)) = n := by
          rw [List.length_append, List.length_map, List.length_take, Nat.min_eq_left (by omega)]
          show (-1 + ((n + 1 : Nat) : Int)).toNat = n
          omega
        rw [e2, List.take_append_of_le_length (by rw [List.length_map, List.length_take]; omega), List.take_of_length_le (by rw [List.length_map, List.length_take]; omega)]
      · rw [if_neg z] at out
        refine iteF_ (decide_eq_false fun y => z (V.int.inj y)) ?_
        exact ⟨_, rfl, out rfl⟩
abbrev nLAt : List Str := ["_law_row_here", "_law_power"]
theorem scLAt : FnScope nLAt ["_law_row_here", "_law_power"] (defScope sLAt) := ⟨rfl, rfl, rfl, by decide +kernel, rfl, by decide +kernel, by decide +kernel⟩
theorem ok_at (F : FnP K "_law_at" sLAt f fd) : FnOk P w K mg base CX0 1 f fd ["_law_row_here", "_law_power"] (spAt K) := by
  refine F.ok scLAt (fun vs H Q E h => ?_) (fun cdv A ou s H vs Q E hr h => ?_)
  · obtain ⟨l, ns, k, rfl, _⟩ := h
    rfl
  · obtain ⟨l, ns, k, rfl, hl, few, fk, kk⟩ := h
    have nd := scLAt.nd
    refine ⟨_, PSs.nox (pss_one (ps_ret (pe_ix ix_list (pe_op op_cat (pv 0) (pe_op op_rep (pe_lst (pa_cons pe_int pa_nil)) (pe_op op_add (pv 1) pe_int))) (pv 1) (fun _ _ => rfl)))), ?_⟩
    refine ⟨_, rfl, (by show 1 ≤ sizeLine; decide), fun l0 h0 => ?_⟩
    have s0 := Same.new (o := .lst [V.int 0]) (Same.refl H) h0
    refine ⟨_, rfl, _, _, rfl, rfl, l0, _, _, rfl, rfl, upd_same, by omega, by omega, ?_, fun l1 h1 => ?_⟩
    · show 1 * _ ≤ _
      exact Nat.le_trans (show 1 * ((k : Int) + 1).toNat ≤ 1001 by omega) (by decide)
    have s1 := Same.new (o := .lst (List.replicate ((k : Int) + 1).toNat [V.int 0]).flatten) s0 h1
    refine ⟨l, l1, _, _, rfl, rfl, s1 _ _ hl, upd_same, ?_, fun l2 h2 => ?_⟩
    · rw [List.length_map, List.flatten_replicate_singleton, List.length_replicate]
      exact Nat.le_trans (show ns.length + ((k : Int) + 1).toNat ≤ 2001 by omega) (by decide)
    refine ⟨_, rfl, l2, _, _, _, rfl, rfl, SqL.of upd_same, atI_nat (at0_pad ns k _ (by omega)), kk _ (Same.new s1 h2)⟩
end
end Sw
namespace Sw
open PySem PySem.Spec PyProof.Rows L2
section
variable {P : Program} {w : World} {K : PySem.W.Frag} {mg : Str → Option Value} {base : Heap} {f f1 f2 f3 f4 f5 f6 f7 f8 f9 C CN CU CD : Addr} {fd fd1 fd2 fd3 fd4 fd5 fd6 fd7 fd8 fd9 : FuncData}
abbrev nLSum : List Str := ["_law_one", "_law_other", "_law_k"]
theorem scLSum : FnScope nLSum ["_law_one", "_law_other"] (defScope sLSum) := ⟨rfl, rfl, rfl, by decide +kernel, rfl, by decide +kernel, by decide +kernel⟩
theorem ok_sum (F : FnP K "_law_sum" sLSum f fd) (GAt : FnOk P w K mg base CX0 1 f1 fd1 ["_law_row_here", "_law_power"] (spAt K)) (gAt : mg "_law_at" = some (.ref f1)) (kAt : PySem.W.keepIn K (.ref f1) = true) (bAt : Binds K fd1 ["_law_row_here", "_law_power"] [])
    (GEn : FnOk P w K mg base CX0 1 f2 fd2 ["_law_row_here"] spEnded) (gEn : mg "_law_ended" = some (.ref f2)) (kEn : PySem.W.keepIn K (.ref f2) = true) (bEn : Binds K fd2 ["_law_row_here"] [])
    (gLen : mg "len" = none) (gMax : mg "max" = none) (gRange : mg "range" = none) : FnOk P w K mg base CX0 2 f fd ["_law_one", "_law_other"] spAdded := by
  refine F.ok scLSum (fun vs H Q E h => ?_) (fun cdv A ou s H vs Q E hr h => ?_)
  · obtain ⟨a, b, xs, ys, rfl, _⟩ := h
    rfl
  · obtain ⟨a, b, xs, ys, rfl, ha, hb, fx, fy, kk⟩ := h
    have nd := scLSum.nd
    have hr1 : Room 1 _ := hr.mono (by decide)
    refine ⟨_, PSs.nox (pss_one (ps_ret (pe_call GEn hr1 rfl gEn kEn bEn .nil pass0 (pa_cons (pe_lc (own := [("_law_k", 2)]) (g := (gName 2)) (tt := tYes) rfl nd (pi_range1 rfl gRange (pa_cons (pe_callB (call_max2 rfl) (by rfl) gMax (by decide +kernel) (pa_cons (pe_callB call_len_seq (by rfl) gLen PySem.boot_len (pa_cons (pv 0) pa_nil)) (pa_cons (pe_callB call_len_seq (by rfl) gLen PySem.boot_len (pa_cons (pv 1) pa_nil)) pa_nil))) pa_nil)) (blkOk_by (N := nLSum) (sc := defScope sLSum) (by decide +kernel))
        (fun _ _ _ _ _ => (pg_name (i := 2) nd rfl (Or.inl rfl))) (fun _ _ _ _ _ => pts_nil) (fun _ _ _ _ _ => (pe_op op_add (pe_call GAt hr1 rfl gAt kAt bAt .nil pass0 (pa_cons (pv 0) (pa_cons (pv 2) pa_nil))) (pe_call GAt hr1 rfl gAt kAt bAt .nil pass0 (pa_cons (pv 1) (pa_cons (pv 2) pa_nil)))))) pa_nil)))), ?_⟩
    refine ⟨_, rfl, a, _, rfl, .inl (SqL.of ha), _, rfl, b, _, rfl, .inl (SqL.of hb), _, _, rfl, ?_⟩
    rw [List.length_map, List.length_map]
    have en : (if (ys.length : Int) > (xs.length : Int) then (ys.length : Int) else (xs.length : Int)) = ((max xs.length ys.length : Nat) : Int) := by
      split <;> omega
    rw [en]
    generalize hn : max xs.length ys.length = n
    refine ⟨_, rfl, by omega, by omega, fun D hD => ?_⟩
    rw [Int.toNat_natCast]
    refine lc_range (fun i H' => Same H H' ∧ H' D = some (.lst ((mk i fun k => at0 xs k + at0 ys k).map V.int))) ⟨Same.new (Same.refl _) hD, upd_same⟩ (fun i H' hi e => ?_) (fun H' e => ?_)
    · obtain ⟨s1, hd⟩ := e
      refine ⟨rfl, ?_⟩
      refine yes_ite ?_
      refine ⟨_, rfl, _, rfl, a, xs, i, ?_, s1 _ _ ha, by omega, by omega, fun H2 s2 => ?_⟩
      · rw [Int.zero_add]
        rfl
      refine ⟨_, rfl, _, rfl, b, ys, i, ?_, s2 _ _ (s1 _ _ hb), by omega, by omega, fun H3 s3 => ?_⟩
      · rw [Int.zero_add]
        rfl
      refine ⟨_, _, rfl, rfl, _, s3 _ _ (s2 _ _ hd), ?_, Same.past ((s1.trans s2).trans s3) hD, ?_⟩
      · rw [mk_ints_len]
        exact Nat.lt_of_lt_of_le (show i < 1000 by omega) (by decide)
      · rw [upd_same, mk_succ, List.map_append]
        rfl
    · obtain ⟨s1, hd⟩ := e
      refine ⟨D, _, rfl, hd, by rw [mk_len]; omega, fun p H2 hp s2 h2 => ?_⟩
      refine kk p H2 ?_ (s1.trans s2) ?_
      · rcases hp with rfl | hp
        · exact hD
        · exact s1.free hp
      · rw [h2]
        unfold sumL
        rw [hn]
abbrev nLProduct : List Str := ["_law_one", "_law_other", "_law_found", "_law_k", "_law_j"]
theorem scLProduct : FnScope nLProduct ["_law_one", "_law_other"] (defScope sLProduct) := ⟨rfl, rfl, rfl, by decide +kernel, rfl, by decide +kernel, by decide +kernel⟩
theorem ok_product (F : FnP K "_law_product" sLProduct f fd) (GAt : FnOk P w K mg base CX0 1 f1 fd1 ["_law_row_here", "_law_power"] (spAt K)) (gAt : mg "_law_at" = some (.ref f1)) (kAt : PySem.W.keepIn K (.ref f1) = true) (bAt : Binds K fd1 ["_law_row_here", "_law_power"] [])
    (GEn : FnOk P w K mg base CX0 1 f2 fd2 ["_law_row_here"] spEnded) (gEn : mg "_law_ended" = some (.ref f2)) (kEn : PySem.W.keepIn K (.ref f2) = true) (bEn : Binds K fd2 ["_law_row_here"] [])
    (gLen : mg "len" = none) (gSum : mg "sum" = none) (gRange : mg "range" = none) : FnOk P w K mg base CX0 2 f fd ["_law_one", "_law_other"] spMul := by
  refine F.ok scLProduct (fun vs H Q E h => ?_) (fun cdv A ou s H vs Q E hr h => ?_)
  · obtain ⟨a, b, xs, ys, rfl, _⟩ := h
    rfl
  · obtain ⟨a, b, xs, ys, rfl, ha, hb, fx, fy, wx, wy, kk⟩ := h
    have nd := scLProduct.nd
    have hr1 : Room 1 _ := hr.mono (by decide)
    refine ⟨_, PSs.nox (pss_cons (ps_set (i := 2) nd rfl (Or.inl rfl) (pe_lst pa_nil))
      (pss_cons (ps_for PassesOwn.never rfl (pi_range1 rfl gRange (pa_cons (pe_op op_add (pe_callB call_len_seq (by rfl) gLen PySem.boot_len (pa_cons (pv 0) pa_nil)) (pe_callB call_len_seq (by rfl) gLen PySem.boot_len (pa_cons (pv 1) pa_nil))) pa_nil)) (pg_name (i := 3) nd rfl (Or.inr rfl))
      (pss_one (ps_expr (pe_bm PySem.F.plainAttrs_list PySem.F.slot_list_append PySem.F.type_list_append mt_append (pv 2) (pa_cons (pe_callB (cr_sum rfl) (by rfl) gSum (by decide +kernel) (pa_cons (pe_lc (own := [("_law_j", 4)]) (g := (gName 4)) (tt := tYes) rfl nd (pi_range1 rfl gRange (pa_cons (pe_op op_add (pv 3) pe_int) pa_nil)) (blkOk_by (N := nLProduct) (sc := defScope sLProduct) (by decide +kernel))
        (fun _ _ _ _ _ => (pg_name (i := 4) nd rfl (Or.inl rfl))) (fun _ _ _ _ _ => pts_nil) (fun _ _ _ _ _ => (pe_op op_mulW (pe_call GAt hr1 rfl gAt kAt bAt .nil pass0 (pa_cons (pv 0) (pa_cons (pv 4) pa_nil))) (pe_call GAt hr1 rfl gAt kAt bAt .nil pass0 (pa_cons (pv 1) (pa_cons (pe_op op_sub (pv 3) (pv 4)) pa_nil)))))) pa_nil)) pa_nil)))))
      (pss_one (ps_ret (pe_call GEn hr1 rfl gEn kEn bEn .nil pass0 (pa_cons (pv 2) pa_nil)))))), ?_⟩
    refine ⟨(by show 0 ≤ sizeLine; decide), fun l hl => ?_⟩
    have s0 := Same.new (o := .lst []) (Same.refl H) hl
    refine ⟨_, rfl, a, _, rfl, .inl (SqL.of (s0 _ _ ha)), _, rfl, b, _, rfl, .inl (SqL.of (s0 _ _ hb)), _, _, rfl, rfl, ?_⟩
    rw [List.length_map, List.length_map]
    obtain ⟨n, hn⟩ : ∃ n, xs.length + ys.length = n := ⟨_, rfl⟩
    refine ⟨(n : Int), by show [V.int ((xs.length : Int) + (ys.length : Int))] = _; rw [← hn]; simp, by omega, by omega, ?_⟩
    rw [Int.toNat_natCast]
    refine for_range (fun i σ H' => ∃ u3 u4 : Option V, σ = [some (.ref a), some (.ref b), some (.ref l), u3, u4] ∧ Same H H' ∧ H' l = some (.lst ((mk i (conv xs ys)).map V.int))) ⟨none, none, rfl, s0, upd_same⟩ ?_ ?_
    · rintro i σ H1 hi ⟨u3, u4, rfl, s1, h1⟩
      refine ⟨_, rfl, .inl ⟨rfl, _, SqL.of h1⟩, ?_⟩
      refine ⟨_, rfl, _, _, rfl, rfl, _, rfl, by omega, by omega, fun D hD => ?_⟩
      have ei : ((0 : Int) + (i : Int) + 1).toNat = i + 1 := by omega
      rw [ei]
      have nl : l ≠ D := ne_of_none h1 hD
      refine lc_range (fun j H' => Same H1 H' ∧ H' D = some (.lst ((mk j fun j => at0 xs j * at0 ys (i - j)).map V.int))) ⟨Same.new (Same.refl _) hD, upd_same⟩ (fun j H' hj e => ?_) (fun H' e => ?_)
      · obtain ⟨s2, hd⟩ := e
        refine ⟨rfl, ?_⟩
        refine yes_ite ?_
        refine ⟨_, rfl, _, rfl, a, xs, j, ?_, s2 _ _ (s1 _ _ ha), by omega, by omega, fun H2 s3 => ?_⟩
        · rw [Int.zero_add]
          rfl
        refine ⟨_, rfl, _, rfl, _, rfl, _, _, rfl, rfl, b, ys, i - j, ?_, s3 _ _ (s2 _ _ (s1 _ _ hb)), by omega, by omega, fun H3 s4 => ?_⟩
        · show [V.ref b, V.int ((0 : Int) + (i : Int) - ((0 : Int) + (j : Int)))] = _
          rw [show (0 : Int) + (i : Int) - ((0 : Int) + (j : Int)) = ((i - j : Nat) : Int) by omega]
        refine ⟨_, _, rfl, rfl, (Wd.at wx _).mul (Wd.at wy _), _, s4 _ _ (s3 _ _ hd), ?_, Same.past ((s2.trans s3).trans s4) hD, ?_⟩
        · rw [mk_ints_len]
          exact Nat.lt_of_lt_of_le (show j < 1000 by omega) (by decide)
        · rw [upd_same, mk_succ, List.map_append]
          rfl
      · obtain ⟨s2, hd⟩ := e
        have hl2 := s2 _ _ h1
        refine ⟨D, _, rfl, SqL.of hd, l, _, _, rfl, rfl, hl2, ?_, ?_⟩
        · rw [mk_ints_len]
          exact Nat.lt_of_lt_of_le (show i < 1000 by omega) (by decide)
        refine ⟨_, _, rfl, Same.past (s1.trans s2) hl, ?_⟩
        have e2 : (mk (i + 1) fun j => at0 xs j * at0 ys (i - j)).sum = conv xs ys i := by
          unfold mk conv
          exact sum_map_range _ _
        rw [upd_same, e2, mk_succ i (conv xs ys), List.map_append]
        rfl
    · rintro σ H1 ⟨u3, u4, rfl, s1, h1⟩
      refine ⟨_, rfl, l, _, rfl, h1, by rw [mk_len]; omega, fun p H2 hp s2 h2 => ?_⟩
      refine kk p H2 ?_ (s1.trans s2) ?_
      · rcases hp with rfl | hp
        · exact hl
        · exact s1.free hp
      · rw [h2]
        unfold prodL
        rw [hn]
end
end Sw
namespace Sw
open PySem PySem.Spec PyProof.Rows L2
def spLaw (K : PySem.W.Frag) : Sp := fun vs H Q _ => ∃ (a : Addr) (ns : List Int), vs = [.ref a] ∧ SqL K H a (ns.map V.int) ∧ ns.length ≤ 63 ∧ ∀ H', Q (.bl true) H'
/-- a list of two lists of ints -/
abbrev twoD (xs ys : List Int) : PyData := .list [.list (xs.map PyData.int), .list (ys.map PyData.int)]
theorem two_shaped (xs ys : List Int) : SeqAt.shaped (twoD xs ys) = true := by
  unfold SeqAt.shaped
  rw [PyData.canLay0, PyData.canLayAll0, PyData.canLayAll0, PyData.canLayAll0, PyData.canLay0, PyData.canLay0, lay_ints, lay_ints, PyData.depth, PyData.depthAll, PyData.depthAll, PyData.depthAll, PyData.depth, PyData.depth, depth_ints, depth_ints]
  rfl
theorem two_eqv (xs ys : List Int) : PyData.eqv (twoD xs ys) (twoD xs ys) = true := by
  refine SeqAt.eqv_refl _ ?_
  rw [PyData.canLay0, PyData.canLayAll0, PyData.canLayAll0, PyData.canLayAll0, PyData.canLay0, PyData.canLay0, lay_ints, lay_ints]
  rfl
theorem two_dp {K : PySem.W.Frag} {H : Hp} {r r0 r1 : Addr} {xs ys : List Int} (h : H r = some (.lst [.ref r0, .ref r1])) (h0 : H r0 = some (.lst (xs.map V.int))) (h1 : H r1 = some (.lst (ys.map V.int))) : Dp K H (.ref r) (twoD xs ys) := .lst (SqL.of h) (.cons (dp_at h0) (.cons (dp_at h1) .nil))
theorem show_ints : ∀ cs : List Int, (∀ c ∈ cs, c.natAbs.log2 < 1920) → PyData.showableAll (cs.map PyData.int) = true
  | [], _ => by rw [List.map_nil, PyData.showableAll]
  | c :: r, h => by
    rw [List.map_cons, PyData.showableAll, show_ints r fun z hz => h z (List.mem_cons_of_mem _ hz), PyData.showable, decide_eq_true (h c List.mem_cons_self)]
    rfl
theorem Wd.log {n : Int} (h : Wd n) : n.natAbs.log2 < 1920 := log2_of (b := 200) h (by decide) (by decide)
theorem two_show {xs ys : List Int} (hx : ∀ n ∈ xs, Wd n) (hy : ∀ n ∈ ys, Wd n) : (twoD xs ys).showable = true := by
  rw [PyData.showable, PyData.showableAll, PyData.showableAll, PyData.showableAll, PyData.showable, PyData.showable, show_ints xs fun n h => (hx n h).log, show_ints ys fun n h => (hy n h).log]
  rfl
theorem one_len {xs : List Int} (hx : ∀ n ∈ xs, Wd n) (l : xs.length ≤ 8) : (PyData.list (xs.map PyData.int)).shown.length ≤ 20000 := by
  refine Nat.le_trans (shown_list (B := 1921) fun d hd => ?_) ?_
  · obtain ⟨n, hn, rfl⟩ := List.mem_map.mp hd
    exact shown_num (hx n hn).log
  · rw [List.length_map]
    omega
theorem two_len {xs ys : List Int} (hx : ∀ n ∈ xs, Wd n) (hy : ∀ n ∈ ys, Wd n) (lx : xs.length ≤ 8) (ly : ys.length ≤ 8) : (twoD xs ys).shown.length ≤ sizeLine := by
  refine Nat.le_trans (shown_list (B := 20000) fun d hd => ?_) ?_
  · rcases List.mem_cons.mp hd with rfl | hd
    · exact one_len hx lx
    · rcases List.mem_cons.mp hd with rfl | hd
      · exact one_len hy ly
      · cases hd
  · show (20000 + 2) * 2 + 3 ≤ sizeLine
    decide
section
variable {P : Program} {w : World} {K : PySem.W.Frag} {mg : Str → Option Value} {base : Heap} {f f1 f2 f3 f4 f5 f6 f7 f8 f9 C CN CU CD : Addr} {fd fd1 fd2 fd3 fd4 fd5 fd6 fd7 fd8 fd9 : FuncData}
abbrev nLaw : List Str := ["_law_script", "_law_k", "_law_pot_here", "_law_one", "_law_other", "_law_shown", "_law_way", "_law_first", "_law_second_here", "_law_told", "_law_due", "_law_row_here"]
theorem scLaw : FnScope nLaw ["_law_script"] (defScope sLaw) := ⟨rfl, rfl, rfl, by decide +kernel, rfl, by decide +kernel, by decide +kernel⟩
theorem ok_law (F : FnP K "law" sLaw f fd)
    (GPo : FnOk P w K mg base CX0 1 f1 fd1 ["_law_script", "_law_k"] (spPot K)) (gPo : mg "_law_pot" = some (.ref f1)) (kPo : PySem.W.keepIn K (.ref f1) = true) (bPo : Binds K fd1 ["_law_script", "_law_k"] [])
    (GRo : FnOk P w K mg base CX0 4 f2 fd2 ["_law_pot_here"] spRow) (gRo : mg "_law_row" = some (.ref f2)) (kRo : PySem.W.keepIn K (.ref f2) = true) (bRo : Binds K fd2 ["_law_pot_here"] [])
    (GSe : FnOk P w K mg base CX0 5 f3 fd3 ["_law_pot_here", "_law_row_here"] spSecond) (gSe : mg "_law_second" = some (.ref f3)) (kSe : PySem.W.keepIn K (.ref f3) = true) (bSe : Binds K fd3 ["_law_pot_here", "_law_row_here"] [])
    (GAd : FnOk P w K mg base CX0 2 f4 fd4 ["one", "other"] spAdded) (gAd : mg "added" = some (.ref f4)) (kAd : PySem.W.keepIn K (.ref f4) = true) (bAd : Binds K fd4 ["one", "other"] [])
    (GMu : FnOk P w K mg base CX0 2 f5 fd5 ["one", "other"] spMul) (gMu : mg "multiplied" = some (.ref f5)) (kMu : PySem.W.keepIn K (.ref f5) = true) (bMu : Binds K fd5 ["one", "other"] [])
    (GSu : FnOk P w K mg base CX0 2 f6 fd6 ["_law_one", "_law_other"] spAdded) (gSu : mg "_law_sum" = some (.ref f6)) (kSu : PySem.W.keepIn K (.ref f6) = true) (bSu : Binds K fd6 ["_law_one", "_law_other"] [])
    (GPr : FnOk P w K mg base CX0 2 f7 fd7 ["_law_one", "_law_other"] spMul) (gPr : mg "_law_product" = some (.ref f7)) (kPr : PySem.W.keepIn K (.ref f7) = true) (bPr : Binds K fd7 ["_law_one", "_law_other"] [])
    (gRange : mg "range" = none) (gMax : mg "max" = none) (gMin : mg "min" = none) (gLen : mg "len" = none) (gAll : mg "all" = none) (gIs : mg "isinstance" = none) (gList : mg "list" = none) (gRepr : mg "repr" = none) : FnG P w K mg base CX0 8 f fd ["_law_script"] (spLaw K) := by
  refine F.okG scLaw (fun vs H Q E h => ?_) (fun cdv A ou s H vs Q E hr guard h => ?_)
  · obtain ⟨a, ns, rfl, _⟩ := h
    rfl
  · obtain ⟨a, ns, rfl, hS, hlen, kk⟩ := h
    have hr5 : Room 5 _ := hr.mono (by decide)
    have hr4 : Room 4 _ := hr.mono (by decide)
    have hr2 : Room 2 _ := hr.mono (by decide)
    have hr1 : Room 1 _ := hr.mono (by decide)
    have un := hr.un
    have hu := hr.units
    have nd := scLaw.nd
    have R : ∀ {X : Cx}, X.A = A.deeper (envOfC "law" (defScope sLaw) s.heap.objs.size f cdv) → CallR X (.builtin "repr") (rReprD X.K) := fun {X} e => call_reprD (by rw [e]; exact guard) (by rw [e]; omega)
    refine ⟨_, PSs.nox (pss_cons (ps_for PassesOwn.never rfl (pi_range1 rfl gRange (pa_cons (pe_callB (call_max2 rfl) (by rfl) gMax (by decide +kernel) (pa_cons pe_int (pa_cons (pe_callB (call_min2 rfl) (by rfl) gMin (by decide +kernel) (pa_cons (pe_callB call_len_seq (by rfl) gLen PySem.boot_len (pa_cons (pv 0) pa_nil)) (pa_cons pe_int pa_nil))) pa_nil))) pa_nil)) (pg_name (i := 1) nd rfl (Or.inl rfl))
      (pss_cons (ps_set (i := 2) nd rfl (Or.inl rfl) (pe_call GPo hr1 rfl gPo kPo bPo .nil pass0 (pa_cons (pv 0) (pa_cons (pv 1) pa_nil))))
      (pss_cons (ps_set (i := 3) nd rfl (Or.inl rfl) (pe_call GRo hr4 rfl gRo kRo bRo .nil pass0 (pa_cons (pv 2) pa_nil)))
      (pss_cons (ps_set (i := 4) nd rfl (Or.inl rfl) (pe_call GSe hr5 rfl gSe kSe bSe .nil pass0 (pa_cons (pv 2) (pa_cons (pv 3) pa_nil))))
      (pss_cons (ps_set (i := 5) nd rfl (Or.inl rfl) (pe_callB (R rfl) (by rfl) gRepr boot_repr (pa_cons (pe_lst (pa_cons (pv 3) (pa_cons (pv 4) pa_nil))) pa_nil)))
      (pss_cons (ps_for PassesOwn.never rfl (pi_range1 rfl gRange (pa_cons pe_int pa_nil)) (pg_name (i := 6) nd rfl (Or.inl rfl))
      (pss_cons (ps_asg (pe_ix ix_list (pe_lst (pa_cons (pe_tup (pa_cons (pv 3) (pa_cons (pv 4) pa_nil))) (pa_cons (pe_tup (pa_cons (pv 4) (pa_cons (pv 3) pa_nil))) pa_nil))) (pv 6) (fun _ _ => rfl)) (pg_tup rfl (pgs_cons (pg_name (i := 7) nd rfl (Or.inl rfl)) (pgs_cons (pg_name (i := 8) nd rfl (Or.inl rfl)) pgs_nil))))
      (pss_cons (ps_set (i := 9) nd rfl (Or.inl rfl) (pe_lst (pa_cons (pe_call GAd hr2 rfl gAd kAd bAd .nil pass0 (pa_cons (pv 7) (pa_cons (pv 8) pa_nil))) (pa_cons (pe_call GMu hr2 rfl gMu kMu bMu .nil pass0 (pa_cons (pv 7) (pa_cons (pv 8) pa_nil))) pa_nil))))
      (pss_cons (ps_set (i := 10) nd rfl (Or.inl rfl) (pe_lst (pa_cons (pe_call GSu hr2 rfl gSu kSu bSu .nil pass0 (pa_cons (pv 3) (pa_cons (pv 4) pa_nil))) (pa_cons (pe_call GPr hr2 rfl gPr kPr bPr .nil pass0 (pa_cons (pv 3) (pa_cons (pv 4) pa_nil))) pa_nil))))
      (pss_cons (ps_if (PW.pt (pw_or (pt_cmpR (op_neD hu) (pv 9) (pv 10) (nomark _)) (pw_or1 (pt_not (pt_val (pe_callB (cr_all rfl) (by rfl) gAll (by decide +kernel) (pa_cons (pe_lc (own := [("_law_row_here", 11)]) (g := (gName 11)) (tt := tYes) rfl nd (pi_list (pv 9)) (blkOk_by (N := nLaw) (sc := defScope sLaw) (by decide +kernel))
        (fun _ _ _ _ _ => (pg_name (i := 11) nd rfl (Or.inl rfl))) (fun _ _ _ _ _ => pts_nil) (fun _ _ _ _ _ => (pe_callB (call_isiG (K := K) rfl) (by rfl) gIs boot_isinstance (pa_cons (pv 11) (pa_cons (pe_bltn (v := .ty "list") rfl gList PyProof.Rows.boot_list rfl) pa_nil))))) pa_nil))))))) (pss_one (ps_ret pe_bl)) pss_nil)
      (pss_cons (ps_expr (pe_bm PySem.F.plainAttrs_list PySem.F.slot_list_append PySem.F.type_list_append mt_append (pe_ix ix_list (pv 9) pe_int (fun _ _ => rfl)) (pa_cons pe_int pa_nil)))
      (pss_cons (ps_expr (pe_bm PySem.F.plainAttrs_list PySem.F.slot_list_append PySem.F.type_list_append mt_append (pe_ix ix_list (pv 9) pe_int (fun _ _ => rfl)) (pa_cons pe_int pa_nil)))
      (pss_one (ps_if (PW.pt (pw_or (pt_cmpR (op_neD hu) (pe_call GAd hr2 rfl gAd kAd bAd .nil pass0 (pa_cons (pv 7) (pa_cons (pv 8) pa_nil))) (pe_ix ix_list (pv 10) pe_int (fun _ _ => rfl)) (nomark _)) (pw_or1 (pt_cmpR (op_neD hu) (pe_call GMu hr2 rfl gMu kMu bMu .nil pass0 (pa_cons (pv 7) (pa_cons (pv 8) pa_nil))) (pe_ix ix_list (pv 10) pe_int (fun _ _ => rfl)) (nomark _))))) (pss_one (ps_ret pe_bl)) pss_nil)))))))))
      (pss_one (ps_if (pt_cmpR op_ne (pe_callB (R rfl) (by rfl) gRepr boot_repr (pa_cons (pe_lst (pa_cons (pv 3) (pa_cons (pv 4) pa_nil))) pa_nil)) (pv 5) (nomark _)) (pss_one (ps_ret pe_bl)) pss_nil))))))))
      (pss_one (ps_ret pe_bl))), ?_⟩
    refine ⟨_, rfl, a, _, rfl, .inl hS, _, _, rfl, _, _, rfl, _, rfl, ?_, ?_, for_range (fun i σ H' => ∃ (u1 u2 u3 u4 u5 u6 u7 u8 u9 u10 : Option V), σ = [some (.ref a), u1, u2, u3, u4, u5, u6, u7, u8, u9, u10, none] ∧ Same H H') ⟨_, _, _, _, _, _, _, _, _, _, rfl, Same.refl _⟩ ?_ ?_⟩
    · rw [List.length_map]
      split <;> split <;> omega
    · rw [List.length_map]
      split <;> split <;> omega
    · rintro i σ H1 hi ⟨u1, u2, u3, u4, u5, u6, u7, u8, u9, u10, rfl, s1⟩
      refine ⟨_, rfl, _, rfl, a, ns, i, ?_, s1.seq hS, fun p H2 np s2 hp => ?_⟩
      · rw [Int.zero_add]
        rfl
      have t2 := s1.trans s2
      have p0 : H p = none := s1.free np
      refine ⟨_, rfl, p, rfl, hp, fun l1 xs H3 n1 lx wx k3 hp3 hl1 => ?_⟩
      have n1p : l1 ≠ p := hp.ne n1
      refine ⟨_, rfl, _, rfl, p, l1, xs, rfl, n1p, hp3, hl1, lx, wx, fun l2 ys H4 n2 ly wy k4 hp4 hl2 => ?_⟩
      have hl1' := k4 _ _ n1p hl1
      have t4 : Same H H4 := Same.kept t2 p0 (k3.trans k4)
      refine ⟨_, rfl, _, rfl, (by show 2 ≤ sizeLine; decide), fun r0 hr0 => ?_⟩
      have s5 := Same.new (o := .lst [V.ref l1, V.ref l2]) (Same.refl H4) hr0
      have hr0' : (upd H4 r0 (.lst [V.ref l1, V.ref l2])) r0 = some (.lst [V.ref l1, V.ref l2]) := upd_same
      generalize upd H4 r0 (.lst [V.ref l1, V.ref l2]) = H5 at s5 hr0'
      have h1 := s5 _ _ hl1'
      have h2 := s5 _ _ hl2
      obtain ⟨S, hSh⟩ : ∃ S, (twoD xs ys).shown = S := ⟨_, rfl⟩
      have lenS : (sumL xs ys).length < sizeLine := by
        refine Nat.lt_of_le_of_lt (trim_len _) ?_
        rw [mk_len]
        exact Nat.lt_of_lt_of_le (show max xs.length ys.length < 100 by omega) (by decide)
      have lenP : (prodL xs ys).length < sizeLine := by
        refine Nat.lt_of_le_of_lt (trim_len _) ?_
        rw [mk_len]
        exact Nat.lt_of_lt_of_le (show xs.length + ys.length < 100 by omega) (by decide)
      refine ⟨r0, _, S, rfl, two_dp hr0' h1 h2, two_shaped xs ys, two_show wx wy, two_len wx wy lx ly, hSh, ?_⟩
      have t5 := t4.trans s5
      refine ⟨2, rfl, by decide, by decide, for_range (n := 2) (fun j σ G => ∃ (w6 w7 w8 w9 w10 : Option V), σ = [some (.ref a), some (.int (0 + (i : Int))), some (.ref p), some (.ref l1), some (.ref l2), some (.str S), w6, w7, w8, w9, w10, none] ∧ Same H5 G) ⟨_, _, _, _, _, rfl, Same.refl _⟩ ?_ ?_⟩
      · rintro j σ G hj ⟨w6, w7, w8, w9, w10, rfl, sG⟩
        refine ⟨_, rfl, _, rfl, (by show 2 ≤ sizeLine; decide), fun ta hta => ⟨_, rfl, _, rfl, (by show 2 ≤ sizeLine; decide), fun tb htb => ⟨(by show 2 ≤ sizeLine; decide), fun tl htl => ?_⟩⟩⟩
        have x1 := Same.new (o := .tup [V.ref l1, V.ref l2]) (Same.refl G) hta
        have x2 := Same.new (o := .tup [V.ref l2, V.ref l1]) (Same.refl _) htb
        have x3 := Same.new (o := .lst [V.ref ta, V.ref tb]) (Same.refl _) htl
        have qa := x3 _ _ (x2 _ _ (upd_same (H := G) (a := ta) (o := .tup [V.ref l1, V.ref l2])))
        have qb := x3 _ _ (upd_same (H := upd G ta (.tup [V.ref l1, V.ref l2])) (a := tb) (o := .tup [V.ref l2, V.ref l1]))
        have ql : (upd (upd (upd G ta (.tup [V.ref l1, V.ref l2])) tb (.tup [V.ref l2, V.ref l1])) tl (.lst [V.ref ta, V.ref tb])) tl = some (.lst [V.ref ta, V.ref tb]) := upd_same
        have sG1 := sG.trans ((x1.trans x2).trans x3)
        generalize upd (upd (upd G ta (.tup [V.ref l1, V.ref l2])) tb (.tup [V.ref l2, V.ref l1])) tl (.lst [V.ref ta, V.ref tb]) = G1 at qa qb ql sG1
        have g1 := sG1 _ _ h1
        have g2 := sG1 _ _ h2
        obtain ⟨t, fa, sa, us, vs, e1, e2, e3, e4, e5, e6, e7, e8, e9, e10⟩ : ∃ (t fa sa : Addr) (us vs : List Int), atI [V.ref ta, V.ref tb] (0 + (j : Int)) = some (.ref t) ∧ G1 t = some (.tup [V.ref fa, V.ref sa]) ∧ G1 fa = some (.lst (us.map V.int)) ∧ G1 sa = some (.lst (vs.map V.int)) ∧ us.length ≤ 8 ∧ vs.length ≤ 8 ∧ (∀ n ∈ us, Wd n) ∧ (∀ n ∈ vs, Wd n) ∧ sumL us vs = sumL xs ys ∧ prodL us vs = prodL xs ys := by
          have : j = 0 ∨ j = 1 := by omega
          rcases this with rfl | rfl
          · exact ⟨ta, l1, l2, xs, ys, rfl, qa, g1, g2, lx, ly, wx, wy, rfl, rfl⟩
          · exact ⟨tb, l2, l1, ys, xs, rfl, qb, g2, g1, ly, lx, wy, wx, sumL_comm _ _, prodL_comm _ _⟩
        refine ⟨_, rfl, tl, _, _, _, rfl, rfl, SqL.of ql, e1, ?_⟩
        refine ⟨t, _, rfl, .inl (.inl e2), rfl, _, _, rfl, _, _, rfl, rfl, ?_⟩
        -- told
        refine ⟨_, rfl, _, rfl, fa, sa, us, vs, rfl, e3, e4, by omega, by omega, fun q1 G2 nq1 sG2 hq1 => ?_⟩
        refine ⟨_, rfl, _, rfl, fa, sa, us, vs, rfl, sG2 _ _ e3, sG2 _ _ e4, by omega, by omega, e7, e8, fun q2 G3 nq2 sG3 hq2 => ?_⟩
        refine ⟨(by show 2 ≤ sizeLine; decide), fun tt htt => ?_⟩
        have sT := Same.new (o := .lst [V.ref q1, V.ref q2]) (Same.refl G3) htt
        have hT : (upd G3 tt (.lst [V.ref q1, V.ref q2])) tt = some (.lst [V.ref q1, V.ref q2]) := upd_same
        generalize upd G3 tt (.lst [V.ref q1, V.ref q2]) = G4 at sT hT
        have c4 : Same G1 G4 := (sG2.trans sG3).trans sT
        have hq1' := sT _ _ (sG3 _ _ hq1)
        have hq2' := sT _ _ hq2
        rw [e9] at hq1'
        rw [e10] at hq2'
        -- due
        refine ⟨_, rfl, _, rfl, l1, l2, xs, ys, rfl, c4 _ _ g1, c4 _ _ g2, by omega, by omega, fun d1 G5 nd1 sG5 hd1 => ?_⟩
        refine ⟨_, rfl, _, rfl, l1, l2, xs, ys, rfl, sG5 _ _ (c4 _ _ g1), sG5 _ _ (c4 _ _ g2), by omega, by omega, wx, wy, fun d2 G6 nd2 sG6 hd2 => ?_⟩
        refine ⟨(by show 2 ≤ sizeLine; decide), fun dd hdd => ?_⟩
        have sD := Same.new (o := .lst [V.ref d1, V.ref d2]) (Same.refl G6) hdd
        have hDD : (upd G6 dd (.lst [V.ref d1, V.ref d2])) dd = some (.lst [V.ref d1, V.ref d2]) := upd_same
        generalize upd G6 dd (.lst [V.ref d1, V.ref d2]) = G7 at sD hDD
        have c7 : Same G4 G7 := (sG5.trans sG6).trans sD
        have hd1' := sD _ _ (sG6 _ _ hd1)
        have hd2' := sD _ _ hd2
        refine ⟨_, rfl, _, rfl, _, _, two_dp (c7 _ _ hT) (c7 _ _ hq1') (c7 _ _ hq2'), two_dp hDD hd1' hd2', two_shaped _ _, two_shaped _ _, ?_⟩
        rw [two_eqv]
        refine ⟨_, rfl, iteF_ rfl ?_⟩
        refine ⟨_, rfl, tt, rfl, ⟨_, SqL.of (c7 _ _ hT)⟩, fun D hD => ?_⟩
        refine lc_list (K := K) (a := tt) (xs := [V.ref q1, V.ref q2]) (fun m G' => G' = upd G7 D (.lst ((List.replicate m true).map V.bl))) rfl (fun m G' _ e => by rw [e]; exact SqL.of (Same.new (Same.refl _) hD _ _ (c7 _ _ hT))) (fun m v G' hv e => ?_) (fun G8 e => ?_)
        · subst e
          have sv := Same.new (o := .lst ((List.replicate m true).map V.bl)) (Same.refl G7) hD
          have tv : ∃ (q : Addr) (zs : List V), v = .ref q ∧ (upd G7 D (.lst ((List.replicate m true).map V.bl))) q = some (.lst zs) := by
            match m, hv with
            | 0, hv =>
              obtain rfl := Option.some.inj hv
              exact ⟨q1, _, rfl, sv _ _ (c7 _ _ hq1')⟩
            | 1, hv =>
              obtain rfl := Option.some.inj hv
              exact ⟨q2, _, rfl, sv _ _ (c7 _ _ hq2')⟩
          have ml : m < 2 := (List.getElem?_eq_some_iff.mp hv).1
          obtain ⟨q, zs, rfl, hz⟩ := tv
          refine ⟨rfl, ?_⟩
          refine yes_ite ?_
          refine ⟨_, rfl, _, _, _, _, true, rfl, ClsV.ty _, TyX.base (TyOf.lst hz), kit_ty (by decide +kernel), _, upd_same, ?_, ?_⟩
          · rw [List.length_map, List.length_replicate]
            exact Nat.lt_of_lt_of_le (show m < 1001 by omega) (by decide)
          · rw [upd_upd, List.replicate_succ', List.map_append]
            rfl
        · have s8 : Same G7 G8 := by
            rw [e]
            exact Same.new (Same.refl _) hD
          refine ⟨D, List.replicate 2 true, rfl, SqL.of (by rw [e]; exact upd_same), ?_⟩
          refine ⟨_, rfl, iteF_ rfl ?_⟩
          have c8 := c7.trans s8
          -- the told lists are changed
          refine ⟨_, rfl, tt, _, _, _, rfl, rfl, SqL.of (c8 _ _ hT), atI_nat (j := 0) rfl, .inl ⟨rfl, _, SqL.of (c8 _ _ hq1')⟩, q1, _, _, rfl, rfl, c8 _ _ hq1', ?_, ?_⟩
          · rw [List.length_map]
            exact lenS
          have nq : ∀ (q : Addr) (o : HO), G1 q = none → Same G1 (upd G8 q o) := fun q o n => Same.past (c4.trans c8) n
          have nq1' : G1 q1 = none := nq1
          have nq2' : G1 q2 = none := sG2.free nq2
          have q12 : q1 ≠ q2 := ne_of_none hq1 nq2
          have q1d1 : d1 ≠ q1 := fun z => by
            rw [z] at nd1
            rw [hq1'] at nd1
            cases nd1
          have q1d2 : d2 ≠ q1 := fun z => by
            rw [z, sG5 _ _ hq1'] at nd2
            cases nd2
          have q2d1 : d1 ≠ q2 := fun z => by
            rw [z, hq2'] at nd1
            cases nd1
          have q2d2 : d2 ≠ q2 := fun z => by
            rw [z, sG5 _ _ hq2'] at nd2
            cases nd2
          have ddq1 : dd ≠ q1 := fun z => by
            rw [z, sG6 _ _ (sG5 _ _ hq1')] at hdd
            cases hdd
          have ddq2 : dd ≠ q2 := fun z => by
            rw [z, sG6 _ _ (sG5 _ _ hq2')] at hdd
            cases hdd
          have ttq1 : tt ≠ q1 := fun z => by
            rw [z, sG3 _ _ hq1] at htt
            cases htt
          have ttq2 : tt ≠ q2 := fun z => by
            rw [z, hq2] at htt
            cases htt
          refine ⟨_, rfl, tt, [V.ref q1, V.ref q2], _, .ref q2, rfl, rfl, SqL.of (by rw [upd_ne ttq1]; exact c8 _ _ hT), atI_nat (j := 1) rfl, .inl ⟨rfl, _, SqL.of (by rw [upd_ne q12.symm]; exact c8 _ _ hq2')⟩, q2, _, _, rfl, rfl, by rw [upd_ne q12.symm]; exact c8 _ _ hq2', ?_, ?_⟩
          · rw [List.length_map]
            exact lenP
          have s9 : Same G1 (upd (upd G8 q1 (.lst ((sumL xs ys).map V.int ++ [V.int 7]))) q2 (.lst ((prodL xs ys).map V.int ++ [V.int 7]))) := Same.past (Same.past (c4.trans c8) nq1') nq2'
          have kd : ∀ (c : Addr) (o : HO), c ≠ q1 → c ≠ q2 → G8 c = some o → (upd (upd G8 q1 (.lst ((sumL xs ys).map V.int ++ [V.int 7]))) q2 (.lst ((prodL xs ys).map V.int ++ [V.int 7]))) c = some o := fun c o n1 n2 h => by
            rw [upd_ne n2, upd_ne n1]
            exact h
          have v1 := kd _ _ q1d1 q2d1 (s8 _ _ hd1')
          have v2 := kd _ _ q1d2 q2d2 (s8 _ _ hd2')
          have v3 := kd _ _ ddq1 ddq2 (s8 _ _ hDD)
          generalize upd (upd G8 q1 (.lst ((sumL xs ys).map V.int ++ [V.int 7]))) q2 (.lst ((prodL xs ys).map V.int ++ [V.int 7])) = G9 at s9 v1 v2 v3
          refine ⟨_, rfl, _, rfl, fa, sa, us, vs, rfl, s9 _ _ e3, s9 _ _ e4, by omega, by omega, fun z1 G10 nz1 s10 hz1 => ?_⟩
          rw [e9] at hz1
          refine ⟨_, rfl, dd, _, _, _, rfl, rfl, SqL.of (s10 _ _ v3), atI_nat (j := 0) rfl, _, _, dp_at hz1, dp_at (s10 _ _ v1), shaped_ints _, shaped_ints _, ?_⟩
          rw [eqv_ints]
          refine ⟨_, rfl, iteF_ rfl ?_⟩
          refine ⟨_, rfl, _, rfl, fa, sa, us, vs, rfl, s10 _ _ (s9 _ _ e3), s10 _ _ (s9 _ _ e4), by omega, by omega, e7, e8, fun z2 G11 nz2 s11 hz2 => ?_⟩
          rw [e10] at hz2
          refine ⟨_, rfl, dd, _, _, _, rfl, rfl, SqL.of (s11 _ _ (s10 _ _ v3)), atI_nat (j := 1) rfl, _, _, dp_at hz2, dp_at (s11 _ _ (s10 _ _ v2)), shaped_ints _, shaped_ints _, ?_⟩
          rw [eqv_ints]
          refine ⟨_, rfl, iteF_ rfl ?_⟩
          exact ⟨_, _, _, _, _, rfl, sG1.trans ((s9.trans s10).trans s11)⟩
      · rintro σ G ⟨w6, w7, w8, w9, w10, rfl, sG⟩
        refine ⟨_, rfl, _, rfl, (by show 2 ≤ sizeLine; decide), fun r1 hr1 => ?_⟩
        have s6 := Same.new (o := .lst [V.ref l1, V.ref l2]) sG hr1
        refine ⟨r1, _, S, rfl, two_dp upd_same (s6 _ _ h1) (s6 _ _ h2), two_shaped xs ys, two_show wx wy, two_len wx wy lx ly, hSh, ?_⟩
        refine ⟨_, rfl, rfl, _, rfl, iteNS rfl ?_⟩
        exact ⟨_, _, _, _, _, _, _, _, _, _, rfl, t5.trans s6⟩
    · rintro σ H1 ⟨u1, u2, u3, u4, u5, u6, u7, u8, u9, u10, rfl, s1⟩
      exact kk H1
end
end Sw
namespace Sw
open PySem PySem.Spec PyProof.Rows L2
/-! ### the head: facts by names -/
/-- as hookD, with one test more of the written part -/
def obsX (fa : List He.Fa) (fn : List He.DefD) (ex : PySem.W.Frag → Bool) (K : PySem.W.Frag) : Bool × He.AlD := (ex K, He.obsD fa fn K)
def obsXG (n : Nat) (fa : List He.Fa) (fn : List He.DefD) (ex : PySem.W.Frag → Bool) (g : Addr → Option Obj) : Bool × He.AlD := obsX fa fn ex (He.frG g (cStatics :: He.asD g n))
def hookX (n : Nat) (fa : List He.Fa) (fn : List He.DefD) (ex : PySem.W.Frag → Bool) : PySem.W.Hook where
  α := Bool × He.AlD
  obs := fun s => obsXG n fa fn ex s.heap.get?
  val := fun _ => (true, He.valD fn)
  says := fun _ h => ∃ K : PySem.W.Frag, K.In h ∧ ex K = true ∧ He.SaysD fa fn K
  of := fun _ _ e => ⟨_, He.frG_in, congrArg (fun z : Bool × He.AlD => z.1) e, congrArg (fun z : Bool × He.AlD => z.2) e⟩
  keeps := fun _ _ _ ⟨K, hK, c⟩ k => ⟨K, PySem.W.Frag.In.keeps hK k, c⟩
theorem obsXG_eq {n : Nat} {fa : List He.Fa} {fn : List He.DefD} {ex : PySem.W.Frag → Bool} {g : Addr → Option Obj} {s : Shared} (h : ∀ a, g a = s.heap.get? a) : obsXG n fa fn ex g = (hookX n fa fn ex).obs s := by
  have e : g = s.heap.get? := funext h
  rw [e] <;> rfl
def kitF (K : PySem.W.Frag) (t u : Value) (b : Bool) : Bool := decide (PySem.W.kitOne K t u = some b)
def dfn (x : Str) (st : Stmt) : He.DefD := ⟨(x, none), x, x, defArgs st, defBody st, defScope st, [], []⟩
def fn : List He.DefD := [dfn "trimmed" sTrimmed, dfn "terms" sTerms, dfn "added" sAdded, dfn "multiplied" sMultiplied, dfn "_law_pot" sPot, dfn "_law_digit" sLDigit, dfn "_law_small" sLSmall, dfn "_law_number" sNumber, dfn "_law_row" sLRow, dfn "_law_second" sLSecond, dfn "_law_ended" sLEnded, dfn "_law_at" sLAt, dfn "_law_sum" sLSum, dfn "_law_product" sLProduct, dfn "law" sLaw]
def fa : List He.Fa := [.glo "trimmed", .glo "terms", .glo "added", .glo "multiplied", .glo "_law_pot", .glo "_law_digit", .glo "_law_small", .glo "_law_number", .glo "_law_row", .glo "_law_second", .glo "_law_ended", .glo "_law_at", .glo "_law_sum", .glo "_law_product", .glo "law", .free "len", .free "max", .free "min", .free "range", .free "isinstance", .free "list", .free "repr", .free "all", .free "sum", .free "enumerate", .free "divmod"]
def ex (K : PySem.W.Frag) : Bool := true
abbrev R : PySem.W.OpenRow := PySem.W.OpenLaw.row PySem.Challenge.rw_sampleweave_k81_polynomials
abbrev hk : PySem.W.Hook := hookX 5 fa fn ex
def ob (s : PySem.W.SharedT) : Bool × He.AlD := obsXG 5 fa fn ex (HandSHeadRun.getT s)
theorem ob_eq (s : PySem.W.SharedT) : ob s = hk.obs s.abs := obsXG_eq (HandSHeadRun.getT_eq s)
def loose : List Str := ["trimmed", "terms", "added", "multiplied", "_law_pot", "_law_digit", "_law_small", "_law_number", "_law_row", "_law_second", "_law_ended", "_law_at", "_law_sum", "_law_product", "_law_called"]
theorem run (w : World) : HandSHeadRun.RunEq R (PySem.W.view R.prog [17]) hk ob 9000 loose w := by
  intro os
  kernel_rfl
theorem facts {P : Program} {w : World} {K : PySem.W.Frag} {h : Heap} {mg : Str → Option Value} {f : Addr} (X : K.In h) (G : h.Ns mainGlobals mg) (hfa : mg ("law" : Str) = some (.ref f)) (cx : ex K = true) (c : He.SaysD fa fn K) :
    ∃ fd : FuncData, (∀ (s : Shared) (v : Value), BindsTo s fd ⟨[v], []⟩ [("_law_script", v)]) ∧ ∀ base : Heap, K.In base → base.Ns mainGlobals mg → FnG P w K mg base CX0 8 f fd ["_law_script"] (spLaw K) := by
  unfold ex at cx
  obtain ⟨d_trimmed, F_trimmed⟩ := c.def_ 0 (d := dfn "trimmed" sTrimmed) rfl
  have g_trimmed := He.glo_ok X G (c.fact 0 (f := .glo "trimmed") rfl)
  have b_trimmed : Binds K d_trimmed ["numbers"] [] := FunD.bindsN F_trimmed fun _ _ _ _ _ _ us hl => match us, hl with | [_], _ => rfl
  obtain ⟨d_terms, F_terms⟩ := c.def_ 1 (d := dfn "terms" sTerms) rfl
  have g_terms := He.glo_ok X G (c.fact 1 (f := .glo "terms") rfl)
  have b_terms : Binds K d_terms ["polynomial"] [] := FunD.bindsN F_terms fun _ _ _ _ _ _ us hl => match us, hl with | [_], _ => rfl
  obtain ⟨d_added, F_added⟩ := c.def_ 2 (d := dfn "added" sAdded) rfl
  have g_added := He.glo_ok X G (c.fact 2 (f := .glo "added") rfl)
  have b_added : Binds K d_added ["one", "other"] [] := FunD.bindsN F_added fun _ _ _ _ _ _ us hl => match us, hl with | [_, _], _ => rfl
  obtain ⟨d_multiplied, F_multiplied⟩ := c.def_ 3 (d := dfn "multiplied" sMultiplied) rfl
  have g_multiplied := He.glo_ok X G (c.fact 3 (f := .glo "multiplied") rfl)
  have b_multiplied : Binds K d_multiplied ["one", "other"] [] := FunD.bindsN F_multiplied fun _ _ _ _ _ _ us hl => match us, hl with | [_, _], _ => rfl
  obtain ⟨d__law_pot, F__law_pot⟩ := c.def_ 4 (d := dfn "_law_pot" sPot) rfl
  have g__law_pot := He.glo_ok X G (c.fact 4 (f := .glo "_law_pot") rfl)
  have b__law_pot : Binds K d__law_pot ["_law_script", "_law_k"] [] := FunD.bindsN F__law_pot fun _ _ _ _ _ _ us hl => match us, hl with | [_, _], _ => rfl
  obtain ⟨d__law_digit, F__law_digit⟩ := c.def_ 5 (d := dfn "_law_digit" sLDigit) rfl
  have g__law_digit := He.glo_ok X G (c.fact 5 (f := .glo "_law_digit") rfl)
  have b__law_digit : Binds K d__law_digit ["_law_pot_here", "_law_many"] [] := FunD.bindsN F__law_digit fun _ _ _ _ _ _ us hl => match us, hl with | [_, _], _ => rfl
  obtain ⟨d__law_small, F__law_small⟩ := c.def_ 6 (d := dfn "_law_small" sLSmall) rfl
  have g__law_small := He.glo_ok X G (c.fact 6 (f := .glo "_law_small") rfl)
  have b__law_small : Binds K d__law_small ["_law_pot_here"] [] := FunD.bindsN F__law_small fun _ _ _ _ _ _ us hl => match us, hl with | [_], _ => rfl
  obtain ⟨d__law_number, F__law_number⟩ := c.def_ 7 (d := dfn "_law_number" sNumber) rfl
  have g__law_number := He.glo_ok X G (c.fact 7 (f := .glo "_law_number") rfl)
  have b__law_number : Binds K d__law_number ["_law_pot_here"] [] := FunD.bindsN F__law_number fun _ _ _ _ _ _ us hl => match us, hl with | [_], _ => rfl
  obtain ⟨d__law_row, F__law_row⟩ := c.def_ 8 (d := dfn "_law_row" sLRow) rfl
  have g__law_row := He.glo_ok X G (c.fact 8 (f := .glo "_law_row") rfl)
  have b__law_row : Binds K d__law_row ["_law_pot_here"] [] := FunD.bindsN F__law_row fun _ _ _ _ _ _ us hl => match us, hl with | [_], _ => rfl
  obtain ⟨d__law_second, F__law_second⟩ := c.def_ 9 (d := dfn "_law_second" sLSecond) rfl
  have g__law_second := He.glo_ok X G (c.fact 9 (f := .glo "_law_second") rfl)
  have b__law_second : Binds K d__law_second ["_law_pot_here", "_law_row_here"] [] := FunD.bindsN F__law_second fun _ _ _ _ _ _ us hl => match us, hl with | [_, _], _ => rfl
  obtain ⟨d__law_ended, F__law_ended⟩ := c.def_ 10 (d := dfn "_law_ended" sLEnded) rfl
  have g__law_ended := He.glo_ok X G (c.fact 10 (f := .glo "_law_ended") rfl)
  have b__law_ended : Binds K d__law_ended ["_law_row_here"] [] := FunD.bindsN F__law_ended fun _ _ _ _ _ _ us hl => match us, hl with | [_], _ => rfl
  obtain ⟨d__law_at, F__law_at⟩ := c.def_ 11 (d := dfn "_law_at" sLAt) rfl
  have g__law_at := He.glo_ok X G (c.fact 11 (f := .glo "_law_at") rfl)
  have b__law_at : Binds K d__law_at ["_law_row_here", "_law_power"] [] := FunD.bindsN F__law_at fun _ _ _ _ _ _ us hl => match us, hl with | [_, _], _ => rfl
  obtain ⟨d__law_sum, F__law_sum⟩ := c.def_ 12 (d := dfn "_law_sum" sLSum) rfl
  have g__law_sum := He.glo_ok X G (c.fact 12 (f := .glo "_law_sum") rfl)
  have b__law_sum : Binds K d__law_sum ["_law_one", "_law_other"] [] := FunD.bindsN F__law_sum fun _ _ _ _ _ _ us hl => match us, hl with | [_, _], _ => rfl
  obtain ⟨d__law_product, F__law_product⟩ := c.def_ 13 (d := dfn "_law_product" sLProduct) rfl
  have g__law_product := He.glo_ok X G (c.fact 13 (f := .glo "_law_product") rfl)
  have b__law_product : Binds K d__law_product ["_law_one", "_law_other"] [] := FunD.bindsN F__law_product fun _ _ _ _ _ _ us hl => match us, hl with | [_, _], _ => rfl
  obtain ⟨d_law, F_law⟩ := c.def_ 14 (d := dfn "law" sLaw) rfl
  have e := hfa.symm.trans (He.glo_ok X G (c.fact 14 (f := .glo "law") rfl))
  cases e
  have bL := FunD.bindsA (ps := ["_law_script"]) F_law fun _ _ _ _ _ _ us hl => match us, hl with | [_], _ => rfl
  have z_len := He.free_ok X G (c.fact 15 (f := .free "len") rfl)
  have z_max := He.free_ok X G (c.fact 16 (f := .free "max") rfl)
  have z_min := He.free_ok X G (c.fact 17 (f := .free "min") rfl)
  have z_range := He.free_ok X G (c.fact 18 (f := .free "range") rfl)
  have z_isinstance := He.free_ok X G (c.fact 19 (f := .free "isinstance") rfl)
  have z_list := He.free_ok X G (c.fact 20 (f := .free "list") rfl)
  have z_repr := He.free_ok X G (c.fact 21 (f := .free "repr") rfl)
  have z_all := He.free_ok X G (c.fact 22 (f := .free "all") rfl)
  have z_sum := He.free_ok X G (c.fact 23 (f := .free "sum") rfl)
  have z_enumerate := He.free_ok X G (c.fact 24 (f := .free "enumerate") rfl)
  have z_divmod := He.free_ok X G (c.fact 25 (f := .free "divmod") rfl)
  refine ⟨d_law, fun s v => bL s [v] rfl, fun base _ _ => ?_⟩
  have GTr : FnOk P w K mg base CX0 1 _ d_trimmed ["numbers"] spTrimmed := ok_trimmed F_trimmed z_len
  have GTe : FnOk P w K mg base CX0 1 _ d_terms ["polynomial"] spTerms := ok_terms F_terms z_enumerate
  have GAd : FnOk P w K mg base CX0 2 _ d_added ["one", "other"] spAdded := ok_added F_added GTr g_trimmed F_trimmed.kp b_trimmed z_len z_max z_enumerate
  have GMu : FnOk P w K mg base CX0 2 _ d_multiplied ["one", "other"] spMul := ok_multiplied F_multiplied GTr g_trimmed F_trimmed.kp b_trimmed GTe g_terms F_terms.kp b_terms z_len
  have GPo : FnOk P w K mg base CX0 1 _ d__law_pot ["_law_script", "_law_k"] (spPot K) := ok_pot F__law_pot z_len z_max
  have GDi : FnOk P w K mg base CX0 1 _ d__law_digit ["_law_pot_here", "_law_many"] spDigit := ok_digit F__law_digit z_divmod
  have GSm : FnOk P w K mg base CX0 2 _ d__law_small ["_law_pot_here"] spNum := ok_small F__law_small GDi g__law_digit F__law_digit.kp b__law_digit
  have GNu : FnOk P w K mg base CX0 3 _ d__law_number ["_law_pot_here"] spNum := ok_number F__law_number GDi g__law_digit F__law_digit.kp b__law_digit GSm g__law_small F__law_small.kp b__law_small
  have GRo : FnOk P w K mg base CX0 4 _ d__law_row ["_law_pot_here"] spRow := ok_row F__law_row GDi g__law_digit F__law_digit.kp b__law_digit GNu g__law_number F__law_number.kp b__law_number z_range
  have GSe : FnOk P w K mg base CX0 5 _ d__law_second ["_law_pot_here", "_law_row_here"] spSecond := ok_second F__law_second GDi g__law_digit F__law_digit.kp b__law_digit GRo g__law_row F__law_row.kp b__law_row
  have GEn : FnOk P w K mg base CX0 1 _ d__law_ended ["_law_row_here"] spEnded := ok_ended F__law_ended
  have GAt : FnOk P w K mg base CX0 1 _ d__law_at ["_law_row_here", "_law_power"] (spAt K) := ok_at F__law_at
  have GSu : FnOk P w K mg base CX0 2 _ d__law_sum ["_law_one", "_law_other"] spAdded := ok_sum F__law_sum GAt g__law_at F__law_at.kp b__law_at GEn g__law_ended F__law_ended.kp b__law_ended z_len z_max z_range
  have GPr : FnOk P w K mg base CX0 2 _ d__law_product ["_law_one", "_law_other"] spMul := ok_product F__law_product GAt g__law_at F__law_at.kp b__law_at GEn g__law_ended F__law_ended.kp b__law_ended z_len z_sum z_range
  exact ok_law F_law GPo g__law_pot F__law_pot.kp b__law_pot GRo g__law_row F__law_row.kp b__law_row GSe g__law_second F__law_second.kp b__law_second GAd g_added F_added.kp b_added GMu g_multiplied F_multiplied.kp b_multiplied GSu g__law_sum F__law_sum.kp b__law_sum GPr g__law_product F__law_product.kp b__law_product z_range z_max z_min z_len z_all z_isinstance z_list z_repr
end Sw
open PySem PySem.W PySem.Calls PyProof.Rows
theorem PySem.Challenge.cw_sampleweave_k81_polynomials_holds : PySem.Challenge.rw_sampleweave_k81_polynomials.Holds := by
  w_on; o_law
  refine HandSHeadRun.head_any (r := OpenLaw.row PySem.Challenge.rw_sampleweave_k81_polynomials) (q := view (OpenLaw.row PySem.Challenge.rw_sampleweave_k81_polynomials).prog [17]) (H := Sw.hk) (ob := Sw.ob) (M := 9000) (loose := Sw.loose) (d := HandSHeadRun.topDef (OpenLaw.row PySem.Challenge.rw_sampleweave_k81_polynomials).prog 17) (kwd := []) Sw.ob_eq
    (by kernel_rfl) (fun s => by kernel_rfl) Sw.run (by kernel_rfl) (by kernel_rfl) (by kernel_rfl) (by rfl) (by first | assumption | decide +kernel) (by decide +kernel) ⟨rfl, rfl, rfl, rfl, rfl, by decide +kernel⟩ ?hw ?hc
  case hw => w_witness2
  case hc =>
    refine L2.walk_goes (l := PySem.Challenge.rw_sampleweave_k81_polynomials) (n := 63) (k := 8) (x := "_law_script") (CX := L2.CX0) rfl (by decide) (by kernel_rfl) ⟨rfl, by decide, by decide⟩ ?F (fun _ _ _ _ z => z)
    intro w mg fa h Y G hmg0
    obtain ⟨K, KX, cx, c⟩ := Y
    have hmg : mg ("law" : PySem.Str) = some (.ref fa) := by
      have e : (HandSHeadRun.topDef (OpenLaw.row PySem.Challenge.rw_sampleweave_k81_polynomials).prog 17).name = ("law" : PySem.Str) := by kernel_rfl
      rw [← e]
      exact hmg0
    obtain ⟨fd, hb, hF⟩ := Sw.facts (P := (PySem.Challenge.rw_sampleweave_k81_polynomials).prog) (w := w) KX G hmg cx c
    exact ⟨K, fd, Sw.spLaw K, KX, hb, fun H a ns hl _ hS => ⟨a, ns, rfl, hS, hl, fun _ => rfl⟩, hF⟩
