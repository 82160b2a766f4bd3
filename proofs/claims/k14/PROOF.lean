import PyProof.Rows.All
import Wide.All
import OpenK.AllK
import Wide.FinOn
import KE.KStateDown
import Lean
import HandS.Base
import HandS.Call
import HandS.List
import HandS.Comp
import HandS.Ends
import HandS.Dict
import HandS.Iter
import HandS.Exc
import HandS.TryOnly
import HandS.ExcOwn
import HandS.Words
import HandS.WordsList
import HandS.WordsDict
import HandS.WordsExc
import HandS.Wide
import HandS.IsInst
import HandS.ExcIs
import HandS.Defaults
import HandS.More
import HandS.Star
import HandS.ClsMeth
import HandS.MakeKw
import HandS.MakeKwOnly
import HandS.Conv
import HandS.TupMul
import HandS.TupLe
import HandS.Flow
import HandS.Zip
import HandS.CallLocal
import HandS.Head0
import HandS.Head1
import HandS.Head2
import HandS.HeadEnd
import HandS.HeadHook1
import HandS.HeadHook2
import PyProof.ReprLen
import HandS.Walk
import HandS.Zip0
import HandS.TupAny
import HandS.Style
import HandS.Codes
import PySem.Challenge.RW_sampleweave_k14_taps_and_latches
set_option Elab.async false
set_option linter.all false
set_option maxRecDepth 100000
set_option maxHeartbeats 0
namespace L2
open PySem PySem.Spec PyProof.Rows
/-! ## Own words, 1: defs that are called where no repr is under way -/
/-- as FnOk, but called only while no guard (a repr under way) is around -/
structure FnG (P : Program) (w : World) (K : PySem.W.Frag) (mg : Str → Option Value) (base : Heap) (CX : CXT) (k : Nat) (f : Addr) (fd : FuncData) (ps : List Str) (sp : Sp) : Prop where
  size : ∀ vs H Q E, sp vs H Q E → vs.length = ps.length
  goes : ∀ (A : Around) (outer : List Env) (s : Shared) (H : Hp) (args : Args) (us : List Value) (vs : List V) (Q : VK) (E : XK), Room k A → A.guards = some [] → Env0 P w K mg base A outer s H →
    BindsTo s fd args (ps.zip us) → Vals vs us → sp vs H Q E → codeAny (model P w) A (.call (.ref f) args) (CR CX outer P w H s Q E) s
section
variable {P : Program} {w : World} {K : PySem.W.Frag} {mg : Str → Option Value} {base : Heap} {CX : CXT} {k : Nat} {f : Addr} {fd : FuncData} {ps N : List Str} {sp : Sp} {x qual : Str} {params : Arguments} {body : List Stmt} {scope : Scope} {dvs : List V} {kws : List (Str × V)}
/-- a def's body, where the guards are known -/
theorem FunD.okG (F : FunD K x qual params body scope dvs kws f fd) (S : FnScope N ps scope) (size : ∀ vs H Q E, sp vs H Q E → vs.length = ps.length)
    (does : ∀ (cdv : Value) (A : Around) (outer : List Env) (s : Shared) (H : Hp) (vs : List V) (Q : VK) (E : XK), Room k (A.deeper (envOfC qual scope s.heap.objs.size f cdv)) → A.guards = some [] → sp vs H Q E →
      ∃ t, PSs (cxOf CX P w K mg base N qual scope f cdv A outer s H E) body t ∧ t { nx := fun _ H' => Q .non H', rt := Q } (start N vs) H) : FnG P w K mg base CX (k + 1) f fd ps sp := by
  obtain ⟨oc, od, dV, kV, doc, pm, an, cdv, ct, osl, rfl, lk, hcd, _, _⟩ := F.ex
  refine ⟨size, fun A outer s H args us vs Q E room guard env bind rel prom => ?_⟩
  have only : StX.Bnd CX P w K mg base (PySem.W.fnOf x qual params body scope dV kV doc pm an cdv ct) args ps A outer s H E (fun vs' H' => vs' = vs ∧ H' = H) :=
    fun A' Ex Q' h' => bind _ _ _ _ (h' s H vs us env Un.refl rfl (fun _ _ z => z) rel (size _ _ _ _ prom) ⟨rfl, rfl⟩)
  refine StX.run_bnd (k := k) lk hcd S room env only fun s2 H2 vs2 same room2 => ?_
  obtain ⟨rfl, rfl⟩ := same
  exact does cdv A outer s2 H2 vs2 Q E room2 guard prom
/-- a plain def is one of these too -/
theorem FnOk.toG (F : FnOk P w K mg base CX k f fd ps sp) : FnG P w K mg base CX k f fd ps sp := ⟨F.len, fun A outer s H args us vs Q E room _ env bind rel prom => F.run A outer s H args us vs Q E room env bind rel prom⟩
end
section
variable {X : Cx} {CX : CXT} {k i : Nat} {f : Addr} {fd : FuncData} {ps : List Str} {sp : Sp} {dvs : List V} {ds : List Value} {E : XK} {x : Str} {p pos : Pos} {e : Expr} {es : List Expr} {t : TA}
theorem goes_fn {pins : List (Addr × Obj)} {σ : St} {H : Hp} {s : Shared} {Q : VK} {us : List Value} {vs : List V} (F : FnG X.prog X.w X.K X.mg X.base CX k f fd ps sp) (room : Room k X.A) (guard : X.A.guards = some []) (hb : Binds X.K fd ps ds) (hd : Vals dvs ds)
    (hx : Passes CX X E) (I : Inv X pins σ H s) (rel : Vals vs us) (prom : sp (vs ++ dvs) H Q E) : wpAny (model X.prog X.w) X.A (call (.ref f) us) (EP X pins σ Q) X.xe s := by
  have both := rel.append hd
  have many : (us ++ ds).length = ps.length := both.length.symm.trans (F.size _ _ _ _ prom)
  refine wpAny_call (codeAny_mono (F.goes X.A X.stack s H ⟨us, []⟩ (us ++ ds) (vs ++ dvs) Q E room guard I.env0 (hb s us I.kIn many) both prom) ?_)
  rintro (_ | u | _ | _ | _ ) s' z
  all_goals first
    | exact hx pins σ H s _ s' I z
    | exact I.after z
    | exact z.elim
theorem pe_callG (F : FnG X.prog X.w X.K X.mg X.base CX k f fd ps sp) (room : Room k X.A) (guard : X.A.guards = some []) (hg : Gl X x) (hm : X.mg x = some (.ref f)) (hk : PySem.W.keepIn X.K (.ref f) = true) (hb : Binds X.K fd ps ds) (hd : Vals dvs ds)
    (hx : Passes CX X E) (ha : PA X (e :: es) t) (hdb : (x == ("__debug__" : Str)) = false := by decide) (he : starEach (e :: es) X.env = (false, eval e X.env) :: starEach es X.env := by rfl)
    (hpl : (backTo pos (starEach es X.env)).any (·.1) = false := by rfl) : PE X (.Call (.Name x p) (e :: es) [] pos) (tCall sp dvs E t) := by
  refine ⟨fun pins s σ H Q I h => wpAny_Call_Name_kw (ld_glob I hg hm ?_ hdb)⟩
  exact PySem.W.callWith_K (h₀ := X.base) I.ok.mod.kin hk (thn (ha.run pos pins s σ H _ I h) fun us s1 ⟨vs, H1, I1, r, q⟩ => ⟨I1.kIn, goes_fn F room guard hb hd hx I1 r q⟩) he hpl
end
/-- the law's call, its def being one of these -/
theorem law_goes {P : Program} {w : World} {K : PySem.W.Frag} {mg mb : Str → Option Value} {CX : CXT} {k : Nat} {fa a : Addr} {fd : FuncData} {x : Str} {sp : Sp} {s₁ : Shared} {vs : List Value} {ns : List Int}
    (inK : K.In s₁.heap) (glob : s₁.heap.Ns mainGlobals mg) (blt : s₁.heap.Ns builtinsNs mb) (boot : ∀ x : Str, x ≠ "__name__" → mb x = bootBuiltins x) (lim : s₁.heap.NoLimit) (gens : s₁.gens = #[])
    (scr : s₁.heap.get? a = some { cls := .type "list", data := .seq vs.toArray }) (nums : IntsAre vs ns) (few : ns.length ≤ sizeLine) (room : Room k callerA)
    (F : ∀ base : Heap, K.In base → base.Ns mainGlobals mg → FnG P w K mg base CX k fa fd [x] sp) (bind : ∀ (s : Shared) (u : Value), BindsTo s fd ⟨[u], []⟩ [(x, u)])
    (prom : ∀ H : Hp, Only H → SqL K H a (ns.map V.int) → sp [.ref a] H (fun v _ => v = .bl true) fun _ _ _ => False) (none_out : ∀ H e s', CX [] H s₁ (fun _ _ _ => False) e s' → False) :
    codeAny (model P w) callerA (.call (.ref fa) ⟨[.ref a], []⟩) (fun r s' => r = .ok (.ret (.bool true)) ∧ OldK s₁.heap s'.heap ∧ s'.os = s₁.os ∧ AllBare s'.gens) s₁ := by
  have rel := vals_ints nums
  have from_heap : ∀ H : Hp, (∀ b, H b = none ∨ (b = a ∧ K.lookup a = none ∧ H b = some (.frz { cls := .type "list", data := .seq vs.toArray } (.lst (ns.map V.int))))) → SqL K H a (ns.map V.int) →
      codeAny (model P w) callerA (.call (.ref fa) ⟨[.ref a], []⟩) (fun r s' => r = .ok (.ret (.bool true)) ∧ OldK s₁.heap s'.heap ∧ s'.os = s₁.os ∧ AllBare s'.gens) s₁ := by
    intro H which seen
    have small : Only H := fun b => (which b).imp id fun z => ⟨_, _, z.2.2⟩
    have space : ∀ {b : Addr} {m : Str → Option Value}, s₁.heap.Ns b m → (hidT s₁.heap H).Ns b m := by
      rintro b m ⟨o, es, ep, e, d, r⟩
      refine ⟨o, es, ep, hidT_get e ((which b).resolve_right fun ⟨eb, _⟩ => ?_), d, r⟩
      rw [eb, scr] at e
      cases e
      cases d
    have written : K.In (hidT s₁.heap H) := fun b o e => hidT_get (inK b o e) ((which b).resolve_right fun ⟨eb, n, _⟩ => by
      rw [eb, n] at e
      cases e)
    have fits : HOk P w H s₁.heap := fun b u z => by
      rcases which b with n | ⟨rfl, _, n⟩
      · rw [n] at z
        cases z
      · rw [n] at z
        cases z
        exact ⟨scr, by rw [List.length_map]; exact few, vs, _, rel, scr⟩
    obtain ⟨mc, c1, c2⟩ := lim
    have env : Env0 P w K mg (hidT s₁.heap H) callerA [] s₁ H :=
      ⟨rfl, ⟨written, space glob, ⟨mb, space blt, boot⟩, mc, space c1, c2⟩, fun _ _ e => of_hidT e, Nat.le_of_eq (hidT_size _ _), trivial, fun _ z => (List.not_mem_nil z).elim, fits, .of_eq gens⟩
    refine codeAny_mono ((F _ written (space glob)).goes callerA [] s₁ H ⟨[.ref a], []⟩ [.ref a] [.ref a] _ _ room rfl env (bind s₁ (.ref a)) (.cons rfl .nil) (prom H small seen)) ?_
    intro res s' z
    match res, z with
    | .error e, z => exact (none_out H e s' z).elim
    | .ok .next, z => exact z.elim
    | .ok .brk, z => exact z.elim
    | .ok .cont, z => exact z.elim
    | .ok (.ret u), z =>
      obtain ⟨v, H', os, bare, un, fits', rv, (rfl : v = V.bl true)⟩ := z
      obtain rfl : u = Value.bool true := rv
      refine ⟨rfl, OldK.of_keep fun b o e => ?_, os, bare⟩
      rcases which b with n | ⟨_, _, n⟩
      · exact un.keep b o e n (fun z => (List.not_mem_nil z).elim) List.not_mem_nil
      · obtain ⟨e1, _⟩ := fits b _ n
        obtain ⟨e2, _⟩ := fits' b _ (un.frzs b _ _ n)
        rw [e] at e1
        cases e1
        exact e2
  by_cases own : K.lookup a = none
  · refine from_heap (fun b => if b = a then some (.frz { cls := .type "list", data := .seq vs.toArray } (.lst (ns.map V.int))) else none) (fun b => ?_) (.inl (.inr ⟨_, if_pos rfl⟩))
    by_cases eb : b = a
    · exact .inr ⟨eb, own, if_pos eb⟩
    · exact .inl (if_neg eb)
  · obtain ⟨o, own⟩ := Option.ne_none_iff_exists'.mp own
    have e := inK a o own
    rw [scr] at e
    cases e
    exact from_heap (fun _ => none) (fun _ => .inl rfl) (.inr ⟨_, vs.toArray, _, own, rfl, rfl, rfl, by rw [List.size_toArray, nums.length]; exact few, by simpa using rel⟩)
theorem walk_goes {l : PySem.W.OpenLaw} {n k : Nat} {q : Program} {loose : List Str} {XP : (Str → Option Value) → Heap → Prop} {YP : World → Heap → Prop} {d : DefRec} {CX : CXT} {x : Str}
    (most : l.most = some n) (few : n ≤ sizeLine) (nodef : d.params.defaults = []) (room : Room k callerA)
    (F : ∀ (w : World) (mg : Str → Option Value) (fa : Addr) (h : Heap), YP w h → h.Ns mainGlobals mg → mg d.name = some (.ref fa) →
      ∃ (K : PySem.W.Frag) (fd : FuncData) (sp : Sp), K.In h ∧ (∀ (s : Shared) (u : Value), BindsTo s fd ⟨[u], []⟩ [(x, u)]) ∧
        (∀ (H : Hp) (a : Addr) (ns : List Int), ns.length ≤ n → Only H → SqL K H a (ns.map V.int) → sp [.ref a] H (fun v _ => v = .bl true) fun _ _ _ => False) ∧
        ∀ base : Heap, K.In base → base.Ns mainGlobals mg → FnG l.prog w K mg base CX k fa fd [x] sp)
    (none_out : ∀ (H : Hp) (s : Shared) (e : Value) (s' : Shared), CX [] H s (fun _ _ _ => False) e s' → False) : PySem.W.WalkO q loose XP YP l.row.toRowW d [] (fun f vs => PySem.call f vs) := by
  refine Att.attach_call most nodef ?_
  intro w s₀ s₁ mg mb fa o pm cd doc a vs ns G Y ho hd hcd named obj nums len gens
  obtain ⟨K, fd, sp, inK, bind, prom, does⟩ := F w mg fa _ Y G.T.g named
  exact law_goes inK G.T.g G.T.b G.T.builtins G.T.nolimit gens obj nums (Nat.le_trans len few) room does bind (fun H hO hS => prom H a ns len hO hS) fun H e s' => none_out H s₁ e s'
end L2
namespace L2
open PySem PySem.Spec PyProof.Rows
/-! ## Own words, 2: repr of data; a base class's def called by the class's name -/
section
variable {X : Cx}
/-- repr(x), x a list or a tuple of data -/
def rReprD (K : PySem.W.Frag) : List V → Hp → VK → Prop := fun xs H Q => ∃ (a : Addr) (d : PyData) (S : Str), xs = [.ref a] ∧ Dp K H (.ref a) d ∧ SeqAt.shaped d = true ∧ d.showable = true ∧ d.shown.length ≤ sizeLine ∧ d.shown = S ∧ Q (.str S) H
theorem call_reprD (guard : X.A.guards = some []) (units : X.A.units + 66 < cLine) : CallR X (.builtin "repr") (rReprD X.K) := by
  intro pins s σ H xs us Q I r h
  obtain ⟨a, d, S, rfl, dp, sh, sw, sz, rfl, q⟩ := h
  obtain ⟨u, rfl, ru⟩ := vals1 r
  obtain rfl : u = Value.ref a := ru
  obtain ⟨as, rd⟩ := Dp.reads I d _ _ dp rfl
  have dep := SeqAt.depth_of_shaped sh
  exact repr_of_reads' rd sw (PyData.noDict_hsm (PyData.hasDict_of_canLay d (SeqAt.canLay_of_shaped sh))) guard (by omega) (fun _ _ e => e) (fun h' u tk hk => ⟨.str d.shown, H, I.kept (t' := tk) hk, ⟨u, rfl⟩, q⟩) sz
/-- C.m(e, ..), C a class of one's own by name, m a def of its body -/
structure BaseM (K : PySem.W.Frag) (C : Addr) (m : Str) (f : Addr) : Prop where
  rd : PySem.W.readsIn K C (.type "type") = true
  ga : PySem.W.specialIn K (.ref C) "__getattribute__" = some (some (.builtin "type.__getattribute__"))
  at_ : PySem.W.findCls K (.ref C) (.type "type") m = some (.val (.ref f))
  kp : PySem.W.keepIn K (.ref f) = true
variable {CX : CXT} {k : Nat} {f C : Addr} {fd : FuncData} {ps : List Str} {sp : Sp} {dvs : List V} {ds : List Value} {E : XK} {x m : Str} {p pos apos : Pos} {e o : Expr} {es : List Expr} {ta : TE} {t : TA}
def tBase (C : Addr) (sp : Sp) (dvs : List V) (E : XK) (ta : TE) (t : TA) : TE := fun σ H Q => ta σ H fun x H1 => x = .ref C ∧ t σ H1 fun vs H2 => sp (vs ++ dvs) H2 Q E
theorem pe_base {pl : Sem Bool} (ho : PE X o ta) (b : BaseM X.K C m f) (F : FnOk X.prog X.w X.K X.mg X.base CX k f fd ps sp) (room : Room k X.A) (hb : Binds X.K fd ps ds) (hd : Vals dvs ds) (hx : Passes CX X E) (ha : PA X (e :: es) t)
    (hst : starEach (e :: es) X.env = (false, eval e X.env) :: starEach es X.env := by rfl) (hpl : (backTo pos (starEach es X.env)).any (·.1) = false := by rfl)
    (ht : eval (.Call (.Attribute o m apos) (e :: es) [] pos) X.env = (do
      let ov ← eval o X.env
      standAt apos.atName
      let (f, first) ← holding [ov] (getMethod ov m pl)
      callWith pos f first (backTo pos (starEach (e :: es) X.env)) (backToKw pos (keywordEach [] X.env))) := by rfl) :
    PE X (.Call (.Attribute o m apos) (e :: es) [] pos) (tBase C sp dvs E ta t) := by
  refine ⟨fun pins s σ H Q I h => ?_⟩
  refine PySem.W.methodCall_KW (pl := pl) (thn (ho.run pins s σ H _ I h) fun u s1 ⟨x, H1, I1, rx, ex, q⟩ => ?_) ht
  subst ex
  obtain rfl : u = Value.ref C := rx
  refine PySem.W.method_cls I1.kIn b.ga (PySem.W.cls_value I1.kIn b.rd b.at_ rfl ?_)
  have I2 := I1.tok (s1.toks + 1)
  exact PySem.W.callWith_K (first := []) (h₀ := X.base) I.ok.mod.kin b.kp (thn (ha.run pos pins _ σ H1 _ I2 q) fun us s2 ⟨vs, H2, I3, r, q2⟩ => ⟨I3.kIn, run_fn F room hb hd hx I3 r q2⟩) hst hpl
end
/-! ### how long a repr is -/
theorem shown_sum {B : Nat} : ∀ ds : List PyData, (∀ d ∈ ds, d.shown.length ≤ B) → ((PyData.shownAll ds).map (·.length)).sum ≤ B * ds.length
  | [], _ => by rw [PyData.shownAll]; exact Nat.zero_le _
  | d :: ds, h => by
    have h1 := h d List.mem_cons_self
    have h2 := shown_sum ds fun z hz => h z (List.mem_cons_of_mem _ hz)
    rw [PyData.shownAll, List.map_cons, List.sum_cons, List.length_cons, Nat.mul_succ]
    omega
theorem shown_list {B : Nat} {ds : List PyData} (h : ∀ d ∈ ds, d.shown.length ≤ B) : (PyData.shown (.list ds)).length ≤ (B + 2) * ds.length + 3 := by
  have h1 := shown_sum ds h
  have h2 := listText_len_le (PyData.shownAll ds)
  rw [PyData.shownAll_length] at h2
  rw [PyData.shown, Nat.add_mul]
  omega
theorem shown_tuple {B : Nat} {ds : List PyData} (h : ∀ d ∈ ds, d.shown.length ≤ B) : (PyData.shown (.tuple ds)).length ≤ (B + 2) * ds.length + 3 := by
  have h1 := shown_sum ds h
  have h2 := tupleText_len_le (PyData.shownAll ds)
  rw [PyData.shownAll_length] at h2
  rw [PyData.shown, Nat.add_mul]
  omega
theorem shown_num {i : Int} (h : i.natAbs.log2 < 1920) : (PyData.shown (.int i)).length ≤ 1921 := by
  exact int_text_len_1921 h
theorem log2_of {i : Int} {b : Nat} (h : i.natAbs < 2 ^ b) (h0 : 0 < b) (h1 : b ≤ 1920) : i.natAbs.log2 < 1920 := Nat.lt_of_lt_of_le (PySem.Flt.log2_lt_of h0 h) h1
end L2
namespace L2
open PySem PySem.Spec PyProof.Rows
/-! ## Own words, 3: a method called in a try; a local that holds one of some defs -/
section
variable {X : Cx} {CX : CXT} {k i : Nat} {f C : Addr} {fd : FuncData} {ps : List Str} {sp : Sp} {E : St → XK} {x m : Str} {p pos apos : Pos} {e o : Expr} {es : List Expr} {ta : TE} {t : TA}
def tMethT (C : Addr) (m : Str) (sp : Sp) (E : St → XK) (ta : TE) (t : TA) : TE := fun σ H Q => ta σ H fun x H1 => ∃ a dx fs, x = .ref a ∧ H1 a = some (.ins C dx fs) ∧ fs.lookup m = none ∧ t σ H1 fun vs H2 => sp (x :: vs) H2 Q (E σ)
theorem pe_methT {pl : Sem Bool} (ho : PE X o ta) (c : Cls X.K C) (hm : Meth X.K C m f) (F : FnOk X.prog X.w X.K X.mg X.base CX k f fd ps sp) (room : Room k X.A) (hb : Binds X.K fd ps []) (hx : ∀ σ, PassesAt CX X σ (E σ)) (ha : PA X (e :: es) t)
    (hst : starEach (e :: es) X.env = (false, eval e X.env) :: starEach es X.env := by rfl) (hpl : (backTo pos (starEach es X.env)).any (·.1) = false := by rfl)
    (ht : eval (.Call (.Attribute o m apos) (e :: es) [] pos) X.env = (do
      let ov ← eval o X.env
      standAt apos.atName
      let (f, first) ← holding [ov] (getMethod ov m pl)
      callWith pos f first (backTo pos (starEach (e :: es) X.env)) (backToKw pos (keywordEach [] X.env))) := by rfl) :
    PE X (.Call (.Attribute o m apos) (e :: es) [] pos) (tMethT C m sp E ta t) := by
  refine ⟨fun pins s σ H Q I h => ?_⟩
  refine PySem.W.methodCall_KW (pl := pl) (thn (ho.run pins s σ H _ I h) fun u s1 ⟨x, H1, I1, rx, a, dx, fs, ex, ea, l, q⟩ => ?_) ht
  subst ex
  obtain rfl : u = Value.ref a := rx
  refine getmeth_ok I1 ea c hm l (PySem.W.callWith_K (first := [.ref a]) (h₀ := X.base) I.ok.mod.kin hm.kp (thn (ha.run pos pins s1 σ H1 _ I1 q) fun us s2 ⟨vs, H2, I2, r, q2⟩ => ⟨I2.kIn, ?_⟩) hst hpl)
  exact run_fnS (us := .ref a :: us) (vs := .ref a :: vs) F room hb (hx σ) I2 (.cons rfl r) q2
/-- the i-th slot holds one of these defs, all of one promise -/
def tOneOf (i : Nat) (fs : List Addr) (sp : Sp) (t : TA) : TE := fun σ H Q => ∃ f, f ∈ fs ∧ σ[i]? = some (some (.ref f)) ∧ t σ H fun vs H1 => sp vs H1 Q E0
theorem pe_oneOf {fs : List Addr} (F : ∀ f, f ∈ fs → ∃ fd ps, FnG X.prog X.w X.K X.mg X.base CX0 k f fd ps sp ∧ PySem.W.keepIn X.K (.ref f) = true ∧ Binds X.K fd ps []) (room : Room k X.A) (guard : X.A.guards = some []) (hN : X.N[i]? = some x) (hv : Vis X.env.scope x) (ha : PA X (e :: es) t)
    (hdb : (x == ("__debug__" : Str)) = false := by decide) (hcd : (x == ("__classdict__" : Str)) = false := by decide) (he : starEach (e :: es) X.env = (false, eval e X.env) :: starEach es X.env := by rfl)
    (hpl : (backTo pos (starEach es X.env)).any (·.1) = false := by rfl) : PE X (.Call (.Name x p) (e :: es) [] pos) (tOneOf i fs sp t) := by
  refine ⟨fun pins s σ H Q I h => ?_⟩
  obtain ⟨f, hf, hs, q0⟩ := h
  obtain ⟨fd, ps, G, kp, hb⟩ := F f hf
  have look := (pe_var (pos := p) hN hv hdb hcd).run pins s σ H (fun v H1 => v = .ref f ∧ H1 = H) I ⟨.ref f, hs, rfl, rfl⟩
  refine wpAny_Call_Name_kw (thn look fun u s1 ⟨v, H1, I1, r1, ev, eH⟩ => ?_)
  subst ev eH
  obtain rfl : u = Value.ref f := r1
  refine PySem.W.callWith_K (h₀ := X.base) I.ok.mod.kin kp (thn (ha.run pos pins s1 σ _ _ I1 q0) fun us s2 ⟨vs, H2, I2, r, q⟩ => ⟨I2.kIn, ?_⟩) he hpl
  exact goes_fn (dvs := []) (E := E0) G room guard hb .nil pass0 I2 r (by rw [List.append_nil]; exact q)
end
end L2
namespace L2
open PySem PySem.Spec PyProof.Rows
/-! ## Own words, 4: a tuple times 0 or 1 -/
theorem tup_once (l : Addr) (items : Array Value) (n : Nat) (dd : Option Addr) (sl : Array (Option Value)) (u : Tok) :
    Meets (Builtin.«tuple.__mul__» ⟨[.ref l, .int 1 u], []⟩) (fun _ R s => s.heap.get? l = some { cls := .type "tuple", dict := dd, data := .seq items n, slots := sl } ∧ R (.ok (.ret (Value.ref l))) s) :=
  .of_wp fun prog w A R s h => by
    obtain ⟨hp, g, d, tk, os⟩ := s
    obtain ⟨at_, h⟩ := h
    have f1 := AutoSeq1.idx_int
    wp_walk using wpAny_loadPart' at_
    exact ⟨_, rfl, h⟩
theorem tup_never (l : Addr) (items : Array Value) (n : Nat) (dd : Option Addr) (sl : Array (Option Value)) (u : Tok) (c1 : items.isEmpty = false) :
    Meets (Builtin.«tuple.__mul__» ⟨[.ref l, .int 0 u], []⟩) (fun _ R s => s.heap.get? l = some { cls := .type "tuple", dict := dd, data := .seq items n, slots := sl } ∧ R (.ok (.ret (Value.ref s.heap.objs.size))) { s with heap := s.heap.push { cls := Value.type "tuple", data := Data.seq #[] }, toks := s.toks }) :=
  .of_wp fun prog w A R s h => by
    obtain ⟨hp, g, d, tk, os⟩ := s
    obtain ⟨at_, h⟩ := h
    have f1 := AutoSeq1.idx_int
    wp_walk using wpAny_loadPart' at_
    exact ⟨_, rfl, h⟩
/-- t * k, t a tuple that holds something, k from 0 on -/
def rTimes (K : PySem.W.Frag) : R2 := fun x y H Q => ∃ (l : Addr) (k : Nat) (xs : List V), x = .ref l ∧ y = .int (k : Int) ∧ SqT K H l xs ∧ xs ≠ [] ∧ k ≤ 1000 ∧ xs.length ≤ 1000 ∧ (k = 1 → Q (.ref l) H) ∧ (k ≠ 1 → ∀ p, H p = none → Q (.ref p) (upd H p (.tup (List.replicate k xs).flatten)))
theorem op_times {X : Cx} : OpR X (binaryOp .Mult) (rTimes X.K) := by
  intro pins s σ H x y v u Q I rx ry h
  obtain ⟨l, k, xs, rfl, rfl, hT, hne, h2, hz, q1, qn⟩ := h
  by_cases two : 2 ≤ k
  · exact op_repT pins s σ H _ _ v u Q I rx ry ⟨l, (k : Int), xs, rfl, rfl, hT, hne, by omega, by omega, hz, fun p hp => qn (by omega) p hp⟩
  · cases rx
    obtain ⟨t, rfl⟩ := ry
    obtain ⟨its, r, ⟨⟨cls, dd, data, sl⟩, ho, hc, n, hd⟩, hs⟩ := I.tuple hT
    simp only at hc hd
    subst hc hd
    have which : k = 0 ∨ k = 1 := by omega
    rcases which with rfl | rfl
    · have some_ : its.toArray.isEmpty = false := by
        cases its with
        | nil =>
          have e := r.length
          cases xs with
          | nil => exact absurd rfl hne
          | cons _ _ => cases e
        | cons _ _ => rfl
      refine wpAny_binaryOp_repeat_ref (T := "tuple") (U := "int") (by decide) ⟨_, ho, rfl⟩ (fun s' => typeIs_int s' 0 t) noFill_tuple_mul F.fills_int_mul F.slot_int_rmul repeat_tuple F.slot_int_index.lookup ?_
      refine call_meets F.slot_int_rmul (typeIs_int s 0 t) F.entry_int_rmul (F.args_int_rmul_2 _ _) (int_rmul_tuple 0 t l its.toArray n dd sl) ⟨ho, rfl, ⟨_, ho, rfl⟩, ?_⟩
      refine call_meets F.slot_tuple_mul ⟨_, ho, rfl⟩ F.entry_tuple_mul (F.args_tuple_mul_2 _ _) (tup_never l its.toArray n dd sl t some_) ⟨ho, ?_⟩
      have fresh := I.hok.fresh (Nat.le_refl s.heap.objs.size)
      refine ⟨.ref s.heap.objs.size, _, I.laid (t' := s.toks) (o := .tup []) (fun b ob q => Heap.get?_push_of_some _ q) (Nat.le_refl _) ?_, rfl, qn (by decide) _ fresh⟩
      exact ⟨Nat.zero_le _, [], .nil, IsTup.new _ _⟩
    · refine wpAny_binaryOp_repeat_ref (T := "tuple") (U := "int") (by decide) ⟨_, ho, rfl⟩ (fun s' => typeIs_int s' 1 t) noFill_tuple_mul F.fills_int_mul F.slot_int_rmul repeat_tuple F.slot_int_index.lookup ?_
      refine call_meets F.slot_int_rmul (typeIs_int s 1 t) F.entry_int_rmul (F.args_int_rmul_2 _ _) (int_rmul_tuple 1 t l its.toArray n dd sl) ⟨ho, rfl, ⟨_, ho, rfl⟩, ?_⟩
      refine call_meets F.slot_tuple_mul ⟨_, ho, rfl⟩ F.entry_tuple_mul (F.args_tuple_mul_2 _ _) (tup_once l its.toArray n dd sl t) ⟨ho, ?_⟩
      exact ⟨.ref l, H, I, rfl, q1 rfl⟩
end L2
namespace L2
open PySem PySem.Spec PyProof.Rows
/-! ## Own words, 5: one of two promises; the call of a value -/
section
variable {P : Program} {w : World} {K : PySem.W.Frag} {mg : Str → Option Value} {base : Heap} {CX : CXT} {k : Nat} {f : Addr} {fd : FuncData} {ps : List Str} {sp sp' : Sp}
theorem FnG.or (F : FnG P w K mg base CX k f fd ps sp) (F' : FnG P w K mg base CX k f fd ps sp') : FnG P w K mg base CX k f fd ps (fun vs H Q E => sp vs H Q E ∨ sp' vs H Q E) := by
  refine ⟨fun vs H Q E h => h.elim (F.size vs H Q E) (F'.size vs H Q E), fun A outer s H args us vs Q E room guard env bind rel h => ?_⟩
  rcases h with h | h
  · exact F.goes A outer s H args us vs Q E room guard env bind rel h
  · exact F'.goes A outer s H args us vs Q E room guard env bind rel h
theorem FnOk.or (F : FnOk P w K mg base CX k f fd ps sp) (F' : FnOk P w K mg base CX k f fd ps sp') : FnOk P w K mg base CX k f fd ps (fun vs H Q E => sp vs H Q E ∨ sp' vs H Q E) := by
  refine ⟨fun vs H Q E h => h.elim (F.len vs H Q E) (F'.len vs H Q E), fun A outer s H args us vs Q E room env bind rel h => ?_⟩
  rcases h with h | h
  · exact F.run A outer s H args us vs Q E room env bind rel h
  · exact F'.run A outer s H args us vs Q E room env bind rel h
end
section
variable {X : Cx} {k : Nat} {sp : Sp} {pos : Pos} {fe e : Expr} {es : List Expr} {tf : TE} {t : TA}
def tCallOf (fs : List Addr) (sp : Sp) (tf : TE) (t : TA) : TE := fun σ H Q => tf σ H fun y H1 => ∃ f, f ∈ fs ∧ y = .ref f ∧ t σ H1 fun vs H2 => sp vs H2 Q E0
theorem pe_callOf {fs : List Addr} (hf : PE X fe tf) (F : ∀ f, f ∈ fs → ∃ fd ps, FnOk X.prog X.w X.K X.mg X.base CX0 k f fd ps sp ∧ PySem.W.keepIn X.K (.ref f) = true ∧ Binds X.K fd ps []) (room : Room k X.A) (ha : PA X (e :: es) t)
    (ht : eval (.Call fe (e :: es) [] pos) X.env = (do callWith pos (← eval fe X.env) [] (backTo pos (starEach (e :: es) X.env)) (backToKw pos (keywordEach [] X.env))) := by rfl)
    (he : starEach (e :: es) X.env = (false, eval e X.env) :: starEach es X.env := by rfl) (hpl : (backTo pos (starEach es X.env)).any (·.1) = false := by rfl) : PE X (.Call fe (e :: es) [] pos) (tCallOf fs sp tf t) := by
  refine ⟨fun pins s σ H Q I h => ?_⟩
  refine Call_ (thn (hf.run pins s σ H _ I h) fun u s1 ⟨y, H1, I1, ry, f, hm, ey, q⟩ => ?_) ht
  subst ey
  obtain rfl : u = Value.ref f := ry
  obtain ⟨fd, ps, G, kp, hb⟩ := F f hm
  refine PySem.W.callWith_K (h₀ := X.base) I.ok.mod.kin kp (thn (ha.run pos pins s1 σ H1 _ I1 q) fun us s2 ⟨vs, H2, I2, r, q2⟩ => ⟨I2.kIn, ?_⟩) he hpl
  exact run_fn (dvs := []) (E := E0) G room hb .nil pass0 I2 r (by rw [List.append_nil]; exact q2)
end
end L2
/-! ## Own words, 6: zip of a list and a tuple (or any two of them) -/
namespace L2
open PySem PySem.Spec PyProof.Rows
/-- an iterator that stands at the k-th of a list's or a tuple's items -/
inductive Src (h : Heap) (it l : Addr) (k : Nat) (its : Array Value) : Bool → Prop
  | ofList (a : h.IsListIter it l k) (b : h.IsList l its) : Src h it l k its false
  | ofTup (a : h.IsTupleIter it l k) (b : h.IsTuple l its) : Src h it l k its true
theorem Src.but {h h' : Heap} {it l c : Addr} {k : Nat} {its : Array Value} {t : Bool} (S : Src h it l k its t) (x : Heap.ExtBut c h h') (n1 : it ≠ c) (n2 : l ≠ c) : Src h' it l k its t := by
  cases S with
  | ofList a b => exact .ofList (a.extBut x n1) (b.extBut x n2)
  | ofTup a b => exact .ofTup (a.extBut x n1) (b.extBut x n2)
section
variable {prog : Program} {w : World} {A : Around} {E : Value → Shared → Prop} {s : Shared} {it l : Addr} {k : Nat} {its : Array Value} {t : Bool}
theorem Src.next {x : Value} {Q : Value → Shared → Prop} (S : Src s.heap it l k its t) (ne : l ≠ it) (hx : its[k]? = some x) (q : ∀ h', Src h' it l (k + 1) its t → Heap.SameBut it s.heap h' → Q x { s with heap := h' }) :
    wpAny (model prog w) A (Builtin.SmallTypes.nextOf (.ref it)) Q E s := by
  cases S with
  | ofList a b => exact wpAny_nextOf_list_item a b hx fun h' a' sb => q h' (.ofList a' (b.extBut sb.extBut ne)) sb
  | ofTup a b => exact RZ.nextOf_tuple_item a b hx fun h' a' sb => q h' (.ofTup a' (b.extBut sb.extBut ne)) sb
theorem Src.last {Q : Value → Shared → Prop} (S : Src s.heap it l k its t) (hh : A.handled = none) (hx : its[k]? = none) (q : ∀ h' e, Heap.ExtBut it s.heap h' → (∃ o, h'.get? e = some o ∧ o.cls = .type "StopIteration") → E (.ref e) { s with heap := h' }) :
    wpAny (model prog w) A (Builtin.SmallTypes.nextOf (.ref it)) Q E s := by
  cases S with
  | ofList a b => exact wpAny_nextOf_list_end hh a b hx q
  | ofTup a b => exact RZ.nextOf_tuple_end hh a b hx q
end
section
variable {prog : Program} {w : World} {A : Around} {E : Value → Shared → Prop} {s : Shared} {z TI TO i1 i2 l1 l2 : Addr} {k1 k2 : Nat} {xs ys : Array Value} {a b : Value} {t1 t2 : Bool}
/-- what a turn of zip leaves as it was -/
def ZKeep (z TO i1 i2 : Addr) (h h' : Heap) : Prop := ∀ c o, c ≠ z → c ≠ TO → c ≠ i1 → c ≠ i2 → h.get? c = some o → h'.get? c = some o
theorem zipS_item {x y : Value} {Q : Value → Shared → Prop} (D : ZipApart z TI TO i1 i2 l1 l2) (hz : IsZip s.heap z TI TO .none) (hI : IsPair s.heap TI (.ref i1) (.ref i2)) (hO : IsPair s.heap TO a b)
    (S1 : Src s.heap i1 l1 k1 xs t1) (S2 : Src s.heap i2 l2 k2 ys t2) (hx : xs[k1]? = some x) (hy : ys[k2]? = some y)
    (q : ∀ h', IsZip h' z TI TO (rawInt s.heap.objs.size) → IsPair h' TO x y → Src h' i1 l1 (k1 + 1) xs t1 → Src h' i2 l2 (k2 + 1) ys t2 → IsPair h' s.heap.objs.size x y → ZKeep z TO i1 i2 s.heap h' → Q (.ref s.heap.objs.size) { s with heap := h' }) :
    wpAny (model prog w) A (Builtin.«zip.__next__» ⟨[.ref z], []⟩) (fun fin s' => ∃ v, fin = .done (.ret v) ∧ Q v s') E s := by
  show wpAny _ _ (field (.ref z) 2 >>= _) _ _ _
  refine wpAny_bind (wpAny_field hz rfl (x := .bool false) rfl ?_)
  show wpAny _ _ (field (.ref z) 3 >>= _) _ _ _
  refine wpAny_bind (wpAny_field hz rfl (x := .ref TI) rfl (wpAny_bind (wpAny_seqItems hI rfl ?_)))
  show wpAny _ _ (Builtin.SmallTypes.ownedTupleIsFree (.ref z) >>= _) _ _ _
  refine wpAny_bind ?_
  unfold Builtin.SmallTypes.ownedTupleIsFree
  refine wpAny_bind (wpAny_field hz rfl (x := .none) rfl (wpAny_pure ?_))
  simp only [if_true]
  refine wpAny_bind (wpAny_rule (wpAny_bind (wpAny_field hz rfl (x := .ref TO) rfl (wpAny_bind (wpAny_setField_rec hz (by simp) fun g1 z1 e1 => ?_)))))
  replace z1 : IsZip g1 z TI TO .ellipsis := z1
  refine wpAny_bind ?_
  simp only [List.zipIdx_cons, List.zipIdx_nil, List.forIn_cons, List.forIn_nil]
  refine wpAny_bind (wpAny_bind (wpAny_onRaise ?_))
  show wpAny _ _ (Builtin.SmallTypes.nextOf (.ref i1) >>= _) _ _ _
  refine wpAny_bind ((S1.but e1.extBut D.i1z D.l1z).next D.l1i1 hx fun g2 T2 e2 => wpAny_pure ?_)
  have O2 : IsPair g2 TO a b := e2.extBut _ _ D.TOi1 (e1.extBut _ _ D.TOz hO)
  refine wpAny_bind (wpAny_seqItems O2 rfl (wpAny_bind (wpAny_updateSeq_pair O2 fun g3 O3 e3 => ?_)))
  replace O3 : IsPair g3 TO x b := O3
  refine wpAny_bind (wpAny_letGo (wpAny_pure ?_))
  refine wpAny_bind (wpAny_bind (wpAny_onRaise ?_))
  show wpAny _ _ (Builtin.SmallTypes.nextOf (.ref i2) >>= _) _ _ _
  refine wpAny_bind ((((S2.but e1.extBut D.i2z D.l2z).but e2.extBut D.i12.symm D.l2i1).but e3.extBut D.TOi2.symm D.l2TO).next D.l2i2 hy fun g4 T4 e4 => wpAny_pure ?_)
  have O4 : IsPair g4 TO x b := e4.extBut _ _ D.TOi2 O3
  refine wpAny_bind (wpAny_seqItems O4 rfl (wpAny_bind (wpAny_updateSeq_pair O4 fun g5 O5 e5 => ?_)))
  replace O5 : IsPair g5 TO x y := O5
  refine wpAny_bind (wpAny_letGo (wpAny_pure (wpAny_pure ?_)))
  refine wpAny_bind (wpAny_seqItems O5 rfl (wpAny_bind (wpAny_newTuple ?_)))
  have size : g5.objs.size = s.heap.objs.size := by rw [e5.1, e4.1, e3.1, e2.1, e1.1]
  have Z5 : IsZip g5 z TI TO .ellipsis := e5.extBut _ _ D.TOz.symm (e4.extBut _ _ D.i2z.symm (e3.extBut _ _ D.TOz.symm (e2.extBut _ _ D.i1z.symm z1)))
  have A5 : Src g5 i1 l1 (k1 + 1) xs t1 := ((T2.but e3.extBut D.TOi1.symm D.l1TO).but e4.extBut D.i12 D.l1i2).but e5.extBut D.TOi1.symm D.l1TO
  have B5 : Src g5 i2 l2 (k2 + 1) ys t2 := T4.but e5.extBut D.TOi2.symm D.l2TO
  have zlt : z < g5.objs.size := Heap.lt_size Z5
  show wpAny _ _ (Builtin.SmallTypes.ownedTupleHandOut (.ref z) (.ref g5.objs.size) >>= _) _ _ _
  refine wpAny_bind ?_
  unfold Builtin.SmallTypes.ownedTupleHandOut
  refine wpAny_bind (wpAny_setField_rec (Heap.get?_push_of_some _ Z5) (by simp) fun g7 z7 e7 => wpAny_setField_rec z7 (by simp) fun g8 z8 e8 => ?_)
  have last : Heap.ExtBut z g5 g8 := fun c o n e => e8.extBut _ _ n (e7.extBut _ _ n (Heap.get?_push_of_some _ e))
  have new : IsPair g8 g5.objs.size x y := e8.extBut _ _ (Nat.ne_of_gt zlt) (e7.extBut _ _ (Nat.ne_of_gt zlt) (Heap.get?_push_size _ rfl))
  replace z8 : IsZip g8 z TI TO (rawInt g5.objs.size) := z8
  rw [size] at new z8
  refine wpAny_pure ⟨_, rfl, ?_⟩
  show Q (.ref g5.objs.size) _
  rw [size]
  exact q g8 z8 (last _ _ D.TOz O5) (A5.but last D.i1z D.l1z) (B5.but last D.i2z D.l2z) new fun c o c1 c2 c3 c4 e => last c o c1 (e5.extBut _ _ c2 (e4.extBut _ _ c4 (e3.extBut _ _ c2 (e2.extBut _ _ c3 (e1.extBut _ _ c1 e)))))
/-- the first of the two is at its end -/
theorem zipS_end {Q : Fin → Shared → Prop} (hh : A.handled = none) (D : ZipApart z TI TO i1 i2 l1 l2) (hz : IsZip s.heap z TI TO .none) (hI : IsPair s.heap TI (.ref i1) (.ref i2)) (S1 : Src s.heap i1 l1 k1 xs t1) (hx : xs[k1]? = none)
    (q : ∀ h' e, ZKeep z TO i1 i2 s.heap h' → (∃ o, h'.get? e = some o ∧ o.cls = .type "StopIteration") → E (.ref e) { s with heap := h' }) :
    wpAny (model prog w) A (Builtin.«zip.__next__» ⟨[.ref z], []⟩) Q E s := by
  show wpAny _ _ (field (.ref z) 2 >>= _) _ _ _
  refine wpAny_bind (wpAny_field hz rfl (x := .bool false) rfl ?_)
  show wpAny _ _ (field (.ref z) 3 >>= _) _ _ _
  refine wpAny_bind (wpAny_field hz rfl (x := .ref TI) rfl (wpAny_bind (wpAny_seqItems hI rfl ?_)))
  show wpAny _ _ (Builtin.SmallTypes.ownedTupleIsFree (.ref z) >>= _) _ _ _
  refine wpAny_bind ?_
  unfold Builtin.SmallTypes.ownedTupleIsFree
  refine wpAny_bind (wpAny_field hz rfl (x := .none) rfl (wpAny_pure ?_))
  simp only [if_true]
  refine wpAny_bind (wpAny_rule (wpAny_bind (wpAny_field hz rfl (x := .ref TO) rfl (wpAny_bind (wpAny_setField_rec hz (by simp) fun g1 z1 e1 => ?_)))))
  replace z1 : IsZip g1 z TI TO .ellipsis := z1
  refine wpAny_bind ?_
  simp only [List.zipIdx_cons, List.zipIdx_nil, List.forIn_cons, List.forIn_nil]
  refine wpAny_bind (wpAny_bind (wpAny_onRaise ?_))
  show wpAny _ _ (Builtin.SmallTypes.nextOf (.ref i1) >>= _) _ _ _
  refine wpAny_bind ((S1.but e1.extBut D.i1z D.l1z).last hh hx fun g2 e e2 he => ?_)
  obtain ⟨oe, hoe, hce⟩ := he
  have z2 : IsZip g2 z TI TO .ellipsis := e2 _ _ D.i1z.symm z1
  have ne : e ≠ z := fun x => by
    rw [x, z2] at hoe
    cases hoe
    simp at hce
  exact wpAny_setField_rec z2 (by simp) fun g3 _ e3 => q g3 e (fun c o c1 _ c3 _ x => e3.extBut _ _ c1 (e2 _ _ c3 (e1.extBut _ _ c1 x))) ⟨oe, e3.extBut _ _ ne hoe, hce⟩
end
/-- a list and a tuple as they stand at each turn, the items in new pairs; the list is at its end first -/
def ItzLT (K : PySem.W.Frag) (a b : Addr) : It :=
  ⟨fun i H => ∃ (xs ys : List V) (x y : V), SqL K H a xs ∧ SqT K H b ys ∧ xs[i]? = some x ∧ ys[i]? = some y,
    fun i H v H' => ∃ T x y, v = .ref T ∧ H T = none ∧ H' = upd H T (.tup [x, y]) ∧ (∀ xs, SqL K H a xs → xs[i]? = some x) ∧ ∀ ys, SqT K H b ys → ys[i]? = some y,
    fun i H => ∃ xs : List V, SqL K H a xs ∧ xs.length ≤ i⟩
theorem Src.list {h : Heap} {it l : Addr} {k : Nat} {its : Array Value} (S : Src h it l k its false) : h.IsListIter it l k := by
  cases S with
  | ofList a b => exact a
theorem Src.tup {h : Heap} {it l : Addr} {k : Nat} {its : Array Value} (S : Src h it l k its true) : h.IsTupleIter it l k := by
  cases S with
  | ofTup a b => exact a
theorem turn_zipLT {P : Program} {w : World} {K : PySem.W.Frag} {elts : List Expr} {kk : Nat} {tpos : Pos} {a b z TI TO i1 i2 : Addr} (D : ZipApart z TI TO i1 i2 a b) :
    Turn P w K (.Tuple elts kk tpos) (ItzLT K a b) [z, TI, TO, i1, i2] z (fun i h => IsZip h z TI TO .none ∧ IsPair h TI (.ref i1) (.ref i2) ∧ (∃ x y, IsPair h TO x y) ∧ h.IsListIter i1 a i ∧ h.IsTupleIter i2 b i) where
  mem := List.mem_cons_self
  obj := fun i h st c hc => by
    obtain ⟨hz, hI, ⟨x, y, hO⟩, ⟨o1, e1, _, d1⟩, ⟨o2, e2, _, d2⟩⟩ := st
    simp only [List.mem_cons, List.not_mem_nil, or_false] at hc
    rcases hc with rfl | rfl | rfl | rfl | rfl
    · exact ⟨_, hz, fun v q => nomatch q⟩
    · exact ⟨_, hI, fun v q => nomatch q⟩
    · exact ⟨_, hO, fun v q => nomatch q⟩
    · exact ⟨o1, e1, fun v q => by rw [d1] at q; cases q⟩
    · exact ⟨o2, e2, fun v q => by rw [d2] at q; cases q⟩
  keep := fun i h h' st k => by
    obtain ⟨hz, hI, ⟨x, y, hO⟩, h1, h2⟩ := st
    exact ⟨k z (by simp) _ hz, k TI (by simp) _ hI, ⟨x, y, k TO (by simp) _ hO⟩, h1.at fun o q => k i1 (by simp) o q, h2.at fun o q => k i2 (by simp) o q⟩
  item := by
    intro X hP hw hK hc i pins s σ H E I hf st hg
    subst hP hw hK
    obtain ⟨hz, hI, ⟨x0, y0, hO⟩, h1, h2⟩ := st
    obtain ⟨xs, ys, x, y, sx, sy, hx, hy⟩ := hg
    obtain ⟨its, rv, p, _⟩ := I.list sx
    obtain ⟨its2, rv2, p2, _⟩ := I.tuple sy
    obtain ⟨u, hu, ru⟩ := rv.get hx
    obtain ⟨u2, hu2, ru2⟩ := rv2.get hy
    have zlt : z < s.heap.objs.size := Heap.lt_size hz
    have lower : ∀ c ∈ [z, TI, TO, i1, i2], c < s.heap.objs.size := fun c hcm => by
      simp only [List.mem_cons, List.not_mem_nil, or_false] at hcm
      rcases hcm with rfl | rfl | rfl | rfl | rfl
      · exact zlt
      · exact Heap.lt_size hI
      · exact Heap.lt_size hO
      · obtain ⟨_, e1, _⟩ := h1; exact Heap.lt_size e1
      · obtain ⟨_, e2, _⟩ := h2; exact Heap.lt_size e2
    unfold pyNext
    refine wpAny_bind (wpAny_attempt (wpAny_callSpecial?_slot (name := Str.ofString "__next__") ⟨_, hz, rfl⟩ F.slot_zip_next (wpAny_call_entry F.slot_zip_next ⟨_, hz, rfl⟩ F.entry_zip_next ?_ (F.args_zip_next_1 _))))
    refine zipS_item D hz hI hO (.ofList h1 p.isList) (.ofTup h2 p2) (x := u) (y := u2) (by simpa using hu) (by simpa using hu2) fun h' z' O' S1 S2 new keep => wpAny_pure ?_
    refine ⟨_, rfl, wpAny_letOwnedTupleGo_zip (s := { s with heap := h' }) z' fun h'' z'' sb => ?_⟩
    have pair : h''.get? s.heap.objs.size = some { cls := .type "tuple", data := .seq #[u, u2] } := (sb.2 _ (Nat.ne_of_gt zlt)).trans new
    have ok : ObjOk X.prog X.w (upd H s.heap.objs.size (.tup [x, y])) h'' s.heap.objs.size (.tup [x, y]) := ⟨by show 2 ≤ sizeLine; decide, [u, u2], .cons ru (.cons ru2 .nil), ⟨_, pair, rfl, _, rfl⟩⟩
    have I1 : Inv X pins σ (upd H s.heap.objs.size (.tup [x, y])) { s with heap := h'' } :=
      I.turnedNew (t' := s.toks) (ch := [z, TI, TO, i1, i2]) (fun c o nb e => (sb.2 c (fun e' => nb (by simp [e']))).trans (keep c o (fun e' => nb (by simp [e'])) (fun e' => nb (by simp [e'])) (fun e' => nb (by simp [e'])) (fun e' => nb (by simp [e'])) e)) hf (Nat.le_refl _) ok
    refine ⟨.ref s.heap.objs.size, _, I1, rfl, ⟨_, x, y, rfl, I.hok.fresh (Nat.le_refl _), rfl, fun l hl => by rw [I.list_inj hl sx]; exact hx, fun l hl => by rw [I.tuple_inj hl sy]; exact hy⟩, ⟨z'', ?_, ⟨u, u2, (sb.2 _ D.TOz).trans O'⟩, ?_, ?_⟩, fun c hcm => ?_⟩
    · exact (sb.2 _ D.TIz).trans (keep _ _ D.TIz D.TITO D.TIi1 D.TIi2 hI)
    · exact S1.list.at fun o q => (sb.2 _ D.i1z).trans q
    · exact S2.tup.at fun o q => (sb.2 _ D.i2z).trans q
    · rw [upd_ne (Nat.ne_of_lt (lower c hcm))]
      exact (hf c hcm).1
  done := by
    intro X hP hw hK hc i pins s σ H E I hf st hg
    subst hP hw hK
    obtain ⟨hz, hI, ⟨x0, y0, hO⟩, h1, h2⟩ := st
    obtain ⟨xs, sx, hend⟩ := hg
    obtain ⟨its, rv, p, _⟩ := I.list sx
    have l1 := rv.length
    unfold pyNext
    refine wpAny_bind (wpAny_attempt (wpAny_callSpecial?_slot (name := Str.ofString "__next__") ⟨_, hz, rfl⟩ F.slot_zip_next (wpAny_call_entry F.slot_zip_next ⟨_, hz, rfl⟩ F.entry_zip_next ?_ (F.args_zip_next_1 _))))
    refine zipS_end (I.ok.hd hc) D hz hI (.ofList h1 p.isList) (by simp; omega) fun h' e keep he => ?_
    obtain ⟨o, ho, hce⟩ := he
    refine wpAny_bind (wpAny_isInstance (T := "StopIteration") (b := true) ⟨o, ho, hce⟩ isSubtype_stop (wpAny_pure ⟨rfl, ?_⟩))
    exact I.turnedL (t' := s.toks) (ch := [z, TI, TO, i1, i2]) (fun c o nb e => keep c o (fun e' => nb (by simp [e'])) (fun e' => nb (by simp [e'])) (fun e' => nb (by simp [e'])) (fun e' => nb (by simp [e'])) e) hf
  self := fun A i s Q E st h => wpAny_pyIter_zip st.1 h
/-- the heap behind zip(l1, l2): two iterators, their pair, the pair to hand out, the zip -/
def zipHp (h : Heap) (l1 l2 : Addr) : Heap :=
  ((((h.push { cls := .type "list_iterator", data := .fields #[.ref l1, .int 0 0] }).push { cls := .type "tuple_iterator", data := .fields #[.ref l2, .int 0 0] }).push { cls := .type "tuple", data := .seq #[.ref h.objs.size, .ref (h.objs.size + 1)] }).push
    { cls := .type "tuple", data := .seq #[.none, .none] }).push { cls := .type "zip", data := .fields #[.none, .bool false, .bool false, .ref (h.objs.size + 2), .ref (h.objs.size + 3)] }
theorem zipLT_new (l1 l2 : Addr) (xs ys : Array Value) : Meets (Builtin.«zip.__new__» ⟨[.type "zip", .ref l1, .ref l2], []⟩) (fun _ R s => s.heap.IsList l1 xs ∧ s.heap.IsTuple l2 ys ∧ R (.ok (.ret (.ref (s.heap.objs.size + 4)))) { s with heap := zipHp s.heap l1 l2 }) :=
  .of_wp fun prog w A R s h => by
    obtain ⟨hp, g, d, tk, os⟩ := s
    obtain ⟨hl1, hl2, h⟩ := h
    have sub := sub_zip
    have L1 : Heap.IsList (Shared.heap ⟨hp, g, d, tk, os⟩) l1 xs := hl1
    have L2 : Heap.IsTuple (Shared.heap ⟨hp.push { cls := .type "list_iterator", data := .fields #[.ref l1, .int 0 0] }, g, d, tk, os⟩) l2 ys := Heap.IsTuple.push hl2 _
    wp_walk using wpAny_pyIter_list L1, wpAny_pyIter_tuple L2
    refine ⟨_, rfl, ?_⟩
    simp only [Heap.size_push] at h ⊢
    exact h
theorem call_zipLT {prog : Program} {w : World} {A : Around} {E : Value → Shared → Prop} {s : Shared} {l1 l2 : Addr} {xs ys : Array Value} {Q : Value → Shared → Prop} (h1 : s.heap.IsList l1 xs) (h2 : s.heap.IsTuple l2 ys)
    (q : ∀ h', IsZip h' (s.heap.objs.size + 4) (s.heap.objs.size + 2) (s.heap.objs.size + 3) .none → IsPair h' (s.heap.objs.size + 2) (.ref s.heap.objs.size) (.ref (s.heap.objs.size + 1)) → IsPair h' (s.heap.objs.size + 3) .none .none →
      h'.IsListIter s.heap.objs.size l1 0 → h'.IsTupleIter (s.heap.objs.size + 1) l2 0 → (∀ c o, s.heap.get? c = some o → h'.get? c = some o) → Q (.ref (s.heap.objs.size + 4)) { s with heap := h' }) :
    wpAny (model prog w) A (call (.type "zip") [.ref l1, .ref l2]) Q E s := by
  refine callType_new F.called_zip (by decide) (F.typeCall_zip_2 _ _) (F.newCall_zip_2 _ _) (fun obj => F.args_object_init_3 obj _ _) F.entry_zip_new (zipLT_new l1 l2 xs ys) ⟨h1, h2, ?_⟩
  have at0 : (zipHp s.heap l1 l2).get? s.heap.objs.size = some { cls := .type "list_iterator", data := .fields #[.ref l1, .int 0 0] } := Heap.get?_push_of_some _ (Heap.get?_push_of_some _ (Heap.get?_push_of_some _ (Heap.get?_push_of_some _ (Heap.get?_push_size _ rfl))))
  have at1 : (zipHp s.heap l1 l2).get? (s.heap.objs.size + 1) = some { cls := .type "tuple_iterator", data := .fields #[.ref l2, .int 0 0] } := by
    refine Heap.get?_push_of_some _ (Heap.get?_push_of_some _ (Heap.get?_push_of_some _ ?_))
    rw [← Heap.size_push s.heap { cls := .type "list_iterator", data := .fields #[.ref l1, .int 0 0] }]
    exact Heap.get?_push_size _ rfl
  have at2 : (zipHp s.heap l1 l2).get? (s.heap.objs.size + 2) = some { cls := .type "tuple", data := .seq #[.ref s.heap.objs.size, .ref (s.heap.objs.size + 1)] } := by
    refine Heap.get?_push_of_some _ (Heap.get?_push_of_some _ ?_)
    have e : s.heap.objs.size + 2 = ((s.heap.push { cls := .type "list_iterator", data := .fields #[.ref l1, .int 0 0] }).push { cls := .type "tuple_iterator", data := .fields #[.ref l2, .int 0 0] }).objs.size := by rw [Heap.size_push, Heap.size_push]
    rw [e]
    exact Heap.get?_push_size _ rfl
  have at3 : (zipHp s.heap l1 l2).get? (s.heap.objs.size + 3) = some { cls := .type "tuple", data := .seq #[.none, .none] } := by
    refine Heap.get?_push_of_some _ ?_
    have e : s.heap.objs.size + 3 = (((s.heap.push { cls := .type "list_iterator", data := .fields #[.ref l1, .int 0 0] }).push { cls := .type "tuple_iterator", data := .fields #[.ref l2, .int 0 0] }).push { cls := .type "tuple", data := .seq #[.ref s.heap.objs.size, .ref (s.heap.objs.size + 1)] }).objs.size := by rw [Heap.size_push, Heap.size_push, Heap.size_push]
    rw [e]
    exact Heap.get?_push_size _ rfl
  have at4 : (zipHp s.heap l1 l2).get? (s.heap.objs.size + 4) = some { cls := .type "zip", data := .fields #[.none, .bool false, .bool false, .ref (s.heap.objs.size + 2), .ref (s.heap.objs.size + 3)] } := by
    have e : s.heap.objs.size + 4 = ((((s.heap.push { cls := .type "list_iterator", data := .fields #[.ref l1, .int 0 0] }).push { cls := .type "tuple_iterator", data := .fields #[.ref l2, .int 0 0] }).push { cls := .type "tuple", data := .seq #[.ref s.heap.objs.size, .ref (s.heap.objs.size + 1)] }).push { cls := .type "tuple", data := .seq #[.none, .none] }).objs.size := by rw [Heap.size_push, Heap.size_push, Heap.size_push, Heap.size_push]
    unfold zipHp
    rw [e]
    exact Heap.get?_push_size _ rfl
  refine ⟨⟨_, at4, rfl⟩, q _ at4 at2 at3 ⟨_, at0, rfl, rfl⟩ ⟨_, at1, rfl, rfl⟩ fun c o x => ?_⟩
  exact Heap.get?_push_of_some _ (Heap.get?_push_of_some _ (Heap.get?_push_of_some _ (Heap.get?_push_of_some _ (Heap.get?_push_of_some _ x))))
def iZipLT (K : PySem.W.Frag) (ta : TA) : TI := fun σ H R => ta σ H fun vs H1 => ∃ a b xs ys, vs = [.ref a, .ref b] ∧ SqL K H1 a xs ∧ SqT K H1 b ys ∧ R (ItzLT K a b) H1
theorem pi_zipLT {X : Cx} {e e2 : Expr} {ta : TA} {p pos tpos : Pos} {elts : List Expr} {kk : Nat} (hg : Gl X "zip") (hm : X.mg "zip" = none) (ha : PA X [e, e2] ta)
    (hs : starEach [e, e2] X.env = (false, eval e X.env) :: starEach [e2] X.env := by rfl) (hpl : (backTo pos (starEach [e2] X.env)).any (·.1) = false := by rfl) :
    PI X (.Tuple elts kk tpos) (.Call (.Name "zip" p) [e, e2] [] pos) (iZipLT X.K ta) := by
  refine ⟨fun pins s σ H R I h => ?_⟩
  refine Call_ (ld_blt I hg hm PyProof.Rows.boot_zip (PyProof.Rows.callWith_type1 (thn (ha.run pos pins s σ H _ I h) fun us s1 ⟨vs, H1, I1, r1, q1⟩ => ?_) hs hpl))
  obtain ⟨a, b, xs, ys, rfl, sx, sy, q⟩ := q1
  obtain ⟨u, v, rfl, ru, rv⟩ := vals2 r1
  cases ru
  cases rv
  obtain ⟨its, _, p1, _⟩ := I1.list sx
  obtain ⟨its2, _, p2, _⟩ := I1.tuple sy
  obtain ⟨o2, ho2, _⟩ := id p2
  refine call_zipLT p1.isList p2 fun h' hz hI hO t1 t2 keep => wpAny_pyIter_zip hz ?_
  refine ⟨s1.heap.objs.size + 4, [s1.heap.objs.size + 4, s1.heap.objs.size + 2, s1.heap.objs.size + 3, s1.heap.objs.size, s1.heap.objs.size + 1], _, _, H1, rfl, I1.kept (t' := s1.toks) keep, turn_zipLT (PySem.W.ktu_apart s1.heap.objs.size a b p1.lt (Heap.lt_size ho2)), ⟨hz, hI, ⟨_, _, hO⟩, t1, t2⟩, fun c hc => ?_, q⟩
  have up : s1.heap.objs.size ≤ c := by
    simp only [List.mem_cons, List.not_mem_nil, or_false] at hc
    rcases hc with rfl | rfl | rfl | rfl | rfl <;> omega
  exact I1.fpOk up (I1.hok.fresh up)
theorem walk_zipLT {K : PySem.W.Frag} {a b : Addr} {xs ys : List V} (hn : xs.length = ys.length) : Walk (ItzLT K a b) xs.length (fun H => SqL K H a xs ∧ SqT K H b ys) (YPair (fun i => xs[i]?) (fun i => ys[i]?)) where
  goes := fun i H hi ⟨h1, h2⟩ => ⟨xs, ys, xs[i], ys[i], h1, h2, List.getElem?_eq_getElem hi, List.getElem?_eq_getElem (hn ▸ hi)⟩
  stops := fun H ⟨h1, _⟩ => ⟨xs, h1, Nat.le_refl _⟩
  yields := fun i H v H' _ ⟨h1, h2⟩ ⟨T, x, y, e1, e2, e3, e4, e5⟩ => ⟨T, x, y, e1, e2, e3, e4 _ h1, e5 _ h2⟩
end L2
namespace Sw
open PySem PySem.Spec PyProof.Rows L2
/-! ### 1. the text by places -/
def top (i : Nat) : Stmt := PySem.Challenge.pw_sampleweave_k14_taps_and_latches.main.body.getD i (.Pass ⟨0, 0, 0, 0⟩)
abbrev FnP (K : PySem.W.Frag) (x : Str) (st : Stmt) (f : Addr) (fd : FuncData) : Prop := FunD K x x (defArgs st) (defBody st) (defScope st) [] [] f fd
abbrev sWhole : Stmt := top 5
abbrev sWithin : Stmt := top 6
abbrev sWholes : Stmt := top 7
abbrev sListOf : Stmt := top 8
abbrev sNeed : Stmt := top 9
abbrev sFiring : Stmt := top 11
abbrev sNodeInit : Stmt := inClass (top 15) 0
abbrev sTapsInit : Stmt := inClass (top 18) 0
abbrev sTapsTakes : Stmt := inClass (top 18) 1
abbrev sTapsGives : Stmt := inClass (top 18) 2
abbrev sTapsFresh : Stmt := inClass (top 18) 5
abbrev sTapsFire : Stmt := inClass (top 18) 6
abbrev sTapsWork : Stmt := inClass (top 18) 7
abbrev sLatchInit : Stmt := inClass (top 19) 0
abbrev sLatchTakes : Stmt := inClass (top 19) 1
abbrev sLatchGives : Stmt := inClass (top 19) 2
abbrev sLatchFresh : Stmt := inClass (top 19) 5
abbrev sLatchFire : Stmt := inClass (top 19) 6
abbrev sLatchWork : Stmt := inClass (top 19) 7
abbrev sCell : Stmt := top 21
abbrev sPot : Stmt := top 22
abbrev sDraw : Stmt := top 23
abbrev sNumber : Stmt := top 24
abbrev sNumbers : Stmt := top 25
abbrev sTapped : Stmt := top 26
abbrev sLatched : Stmt := top 27
abbrev sGiven : Stmt := top 28
abbrev sMade : Stmt := top 29
abbrev sLRight : Stmt := top 30
abbrev sLaw : Stmt := top 31
/-! ### 2. pots -/
/-- all but what stands at p is as it was -/
def Kept (p : Addr) (H H' : Hp) : Prop := ∀ b o, b ≠ p → H b = some o → H' b = some o
theorem Kept.refl {p : Addr} {H : Hp} : Kept p H H := fun _ _ _ h => h
theorem Kept.trans {p : Addr} {H H1 H2 : Hp} (a : Kept p H H1) (b : Kept p H1 H2) : Kept p H H2 := fun c o n h => b c o n (a c o n h)
theorem Kept.upd {p : Addr} {H H1 : Hp} {o : HO} (a : Kept p H H1) : Kept p H (upd H1 p o) := fun c o n h => by
  rw [upd_ne n]
  exact a c o n h
theorem Kept.new {p q : Addr} {H H1 : Hp} {o : HO} (a : Kept p H H1) (h : H1 q = none) : Kept p H (L2.upd H1 q o) := fun c o n e => by
  have e1 := a c o n e
  rw [upd_ne (ne_of_none e1 h)]
  exact e1
theorem Kept.same {p : Addr} {H H1 : Hp} (a : Same H H1) : Kept p H H1 := fun c o _ e => a c o e
/-- behind a heap in which nothing stood at p -/
theorem Same.kept {p : Addr} {H0 H H1 : Hp} (s : Same H0 H) (h : H0 p = none) (k : Kept p H H1) : Same H0 H1 := fun b o e =>
  k b o (fun z => by rw [z, h] at e; cases e) (s b o e)
theorem Same.new {H H1 : Hp} {q : Addr} {o : HO} (a : Same H H1) (h : H1 q = none) : Same H (upd H1 q o) := fun c u e => by
  have e1 := a c u e
  rw [upd_ne (ne_of_none e1 h)]
  exact e1
/-- a pot: two numbers from 0 on, the second one small -/
def PotAt (H : Hp) (p : Addr) : Prop := ∃ a b : Int, 0 ≤ a ∧ 0 ≤ b ∧ b < 2147483647 ∧ H p = some (.lst [.int a, .int b])
theorem PotAt.keep {H H1 : Hp} {p : Addr} (h : PotAt H p) (s : Same H H1) : PotAt H1 p := by
  obtain ⟨a, b, h1, h2, h3, h4⟩ := h
  exact ⟨a, b, h1, h2, h3, s _ _ h4⟩
/-! ### 3. promises -/
def spCell (K : PySem.W.Frag) : Sp := fun vs H Q _ => ∃ (a : Addr) (ns : List Int) (k : Nat), vs = [.ref a, .int (k : Int)] ∧ SqL K H a (ns.map V.int) ∧ ∀ c : Int, Q (.int c) H
def spPot : Sp := fun vs H Q _ => ∃ c : Int, vs = [.int c] ∧ ∀ (p : Addr) (H' : Hp), H p = none → Same H H' → PotAt H' p → Q (.ref p) H'
def spDraw : Sp := fun vs H Q _ => ∃ (p : Addr) (m : Int), vs = [.ref p, .int m] ∧ PotAt H p ∧ 0 < m ∧ m < 2 ^ 64 ∧ ∀ (d : Int) (H' : Hp), 0 ≤ d → d < m → Kept p H H' → PotAt H' p → Q (.int d) H'
def spNumber : Sp := fun vs H Q _ => ∃ p : Addr, vs = [.ref p] ∧ PotAt H p ∧ ∀ (d : Int) (H' : Hp), -(10 ^ 56) < d → d < 10 ^ 56 → Kept p H H' → PotAt H' p → Q (.int d) H'
section
variable {P : Program} {w : World} {K : PySem.W.Frag} {mg : Str → Option Value} {base : Heap} {f f1 f2 f3 f4 f5 f6 C CW CN : Addr} {fd fd1 fd2 fd3 fd4 fd5 fd6 : FuncData}
theorem scCell : FnScope ["_law_script", "_law_k"] ["_law_script", "_law_k"] (defScope sCell) := ⟨rfl, rfl, rfl, by decide +kernel, rfl, by decide +kernel, by decide +kernel⟩
theorem ok_cell (F : FnP K "_law_cell" sCell f fd) (gLen : mg "len" = none) : FnOk P w K mg base CX0 1 f fd ["_law_script", "_law_k"] (spCell K) := by
  refine F.ok scCell (fun vs H Q E h => ?_) (fun cdv A outer s H vs Q E hr h => ?_)
  · obtain ⟨a, ns, k, rfl, _⟩ := h
    rfl
  · obtain ⟨a, ns, k, rfl, hS, kk⟩ := h
    refine ⟨_, PSs.nox (pss_one (ps_ret (pe_ifExp (pt_cmpR op_lt (pv 1) (pe_callB call_len_seq (by rfl) gLen PySem.boot_len (pa_cons (pv 0) pa_nil)) (nomark _)) (pe_ix ix_list (pv 0) (pv 1) (fun _ _ => rfl)) pe_int))), ?_⟩
    refine ⟨_, rfl, _, rfl, a, _, rfl, .inl hS, _, _, rfl, rfl, _, rfl, ?_⟩
    refine ite2 (fun h => ?_) (fun _ => kk 0)
    have h1 := of_decide_eq_true h
    rw [List.length_map] at h1
    have h2 : k < ns.length := by omega
    refine ⟨_, rfl, _, rfl, a, _, _, V.int (ns[k]), rfl, rfl, hS, atI_nat ?_, kk _⟩
    rw [List.getElem?_map, List.getElem?_eq_getElem h2]
    rfl
theorem scPot : FnScope ["_law_cell_here"] ["_law_cell_here"] (defScope sPot) := ⟨rfl, rfl, rfl, by decide +kernel, rfl, by decide +kernel, by decide +kernel⟩
theorem ok_pot (F : FnP K "_law_pot" sPot f fd) (gMax : mg "max" = none) : FnOk P w K mg base CX0 1 f fd ["_law_cell_here"] spPot := by
  refine F.ok scPot (fun vs H Q E h => ?_) (fun cdv A outer s H vs Q E hr h => ?_)
  · obtain ⟨c, rfl, _⟩ := h
    rfl
  · obtain ⟨c, rfl, kk⟩ := h
    refine ⟨_, PSs.nox (pss_one (ps_ret (pe_lst (pa_cons (pe_callB (call_max2 rfl) (by rfl) gMax (by decide +kernel) (pa_cons pe_int (pa_cons (pe_op op_sub (pv 0) (pe_op op_pow pe_int pe_int)) pa_nil)))
      (pa_cons (pe_op op_mod (pe_op op_add (pe_op op_mul (pe_op op_mod (pv 0) pe_int) pe_int) pe_int) pe_int) pa_nil))))), ?_⟩
    refine ⟨_, rfl, _, _, rfl, rfl, ⟨by decide, by decide, by decide⟩, _, _, rfl, rfl, _, _, rfl, ?_⟩
    have q0 := Int.emod_nonneg c (show (2147483629 : Int) ≠ 0 by decide)
    have q1 := Int.emod_lt_of_pos c (show (0 : Int) < 2147483629 by decide)
    refine ⟨_, rfl, _, _, rfl, rfl, (by show (0 : Int) < _; decide), _, _, rfl, rfl, .inr ⟨by decide, by decide⟩, _, _, rfl, rfl, _, _, rfl, rfl, (by show (0 : Int) < _; decide), ?_⟩
    refine ⟨(by show 2 ≤ sizeLine; decide), fun p hp => kk p _ hp (Same.new (Same.refl _) hp) ⟨_, _, ?_, ?_, ?_, upd_same⟩⟩
    · split
      · omega
      · decide
    · exact Int.emod_nonneg _ (by decide)
    · exact Int.emod_lt_of_pos _ (by decide)
theorem scDraw : FnScope ["_law_pot_here", "_law_many", "_law_digit"] ["_law_pot_here", "_law_many"] (defScope sDraw) := ⟨rfl, rfl, rfl, by decide +kernel, rfl, by decide +kernel, by decide +kernel⟩
theorem div_wide {i m : Int} (h0 : 0 < m) (h1 : m < 2 ^ 64) : CDivW i m := wide_div (b := 64) h0 (by omega) (by decide) (by decide)
theorem ok_draw (F : FnP K "_law_draw" sDraw f fd) : FnOk P w K mg base CX0 1 f fd ["_law_pot_here", "_law_many"] spDraw := by
  refine F.ok scDraw (fun vs H Q E h => ?_) (fun cdv A outer s H vs Q E hr h => ?_)
  · obtain ⟨p, m, rfl, _⟩ := h
    rfl
  · obtain ⟨p, m, rfl, ⟨a, b, a0, b0, b1, hp⟩, m0, m1, kk⟩ := h
    refine ⟨_, PSs.nox (pss_cons (ps_if (pt_cmpR op_gt (pe_ix ix_list (pv 0) pe_int (fun _ _ => rfl)) pe_int (nomark _))
        (pss_cons (ps_set (i := 2) scDraw.nd rfl (Or.inl rfl) (pe_op op_mod (pe_ix ix_list (pv 0) pe_int (fun _ _ => rfl)) (pv 1)))
          (pss_cons (ps_asg (pe_op op_fdivW (pe_ix ix_list (pv 0) pe_int (fun _ _ => rfl)) (pv 1)) (pg_sub (pv 0) pe_int set_list (by intro _; rfl)))
            (pss_one (ps_ret (pv 2))))) pss_nil)
      (pss_cons (ps_asg (pe_op op_mod (pe_op op_add (pe_op op_mul (pe_ix ix_list (pv 0) pe_int (fun _ _ => rfl)) pe_int) pe_int) pe_int) (pg_sub (pv 0) pe_int set_list (by intro _; rfl)))
        (pss_one (ps_ret (pe_op op_mod (pe_op op_fdiv (pe_op op_mod (pe_op op_mul (pe_ix ix_list (pv 0) pe_int (fun _ _ => rfl)) (pe_ix ix_list (pv 0) pe_int (fun _ _ => rfl))) pe_int) pe_int) (pv 1)))))), ?_⟩
    refine ⟨_, rfl, p, _, _, _, rfl, rfl, SqL.of hp, atI_nat (j := 0) rfl, _, _, rfl, rfl, _, rfl, ?_⟩
    refine ite2 (fun h => ?_) (fun _ => ?_)
    · refine ⟨_, rfl, p, _, _, _, rfl, rfl, SqL.of hp, atI_nat (j := 0) rfl, _, rfl, _, _, rfl, rfl, m0, ?_⟩
      refine ⟨_, rfl, p, _, _, _, rfl, rfl, SqL.of hp, atI_nat (j := 0) rfl, _, rfl, _, _, rfl, rfl, div_wide m0 m1, ?_⟩
      refine ⟨_, rfl, p, _, _, 0, rfl, rfl, hp, rfl, ?_⟩
      refine ⟨_, rfl, kk _ _ (Int.emod_nonneg _ (by omega)) (Int.emod_lt_of_pos _ m0) (Kept.upd Kept.refl) ⟨_, _, Int.ediv_nonneg a0 (by omega), b0, b1, upd_same⟩⟩
    · refine ⟨_, rfl, p, _, _, _, rfl, rfl, SqL.of hp, atI_nat (j := 1) rfl, _, _, rfl, rfl, .inr ⟨by decide, by decide⟩, _, _, rfl, rfl, _, _, rfl, rfl, (by show (0 : Int) < _; decide), ?_⟩
      refine ⟨_, rfl, p, _, _, 1, rfl, rfl, hp, rfl, ?_⟩
      have c0 := Int.emod_nonneg (b * 39373 + 8191) (show (2147483587 : Int) ≠ 0 by decide)
      have c1 := Int.emod_lt_of_pos (b * 39373 + 8191) (show (0 : Int) < 2147483587 by decide)
      have hq : (upd H p (.lst ([V.int a, V.int b].set 1 (V.int ((b * 39373 + 8191) % 2147483587))))) p = some (.lst [V.int a, V.int ((b * 39373 + 8191) % 2147483587)]) := upd_same
      refine ⟨_, rfl, p, _, _, _, rfl, rfl, SqL.of hq, atI_nat (j := 1) rfl, _, rfl, p, _, _, _, rfl, rfl, SqL.of hq, atI_nat (j := 1) rfl, _, _, rfl, rfl, .inl ⟨by omega, by omega⟩, ?_⟩
      refine ⟨_, _, rfl, rfl, (by show (0 : Int) < _; decide), _, _, rfl, rfl, ⟨by decide, by decide⟩, _, rfl, _, _, rfl, rfl, m0, ?_⟩
      exact kk _ _ (Int.emod_nonneg _ (by omega)) (Int.emod_lt_of_pos _ m0) (Kept.upd Kept.refl) ⟨_, _, a0, c0, by omega, hq⟩
theorem scNumber : FnScope ["_law_pot_here", "_law_way", "_law_found", "_law_k"] ["_law_pot_here"] (defScope sNumber) := ⟨rfl, rfl, rfl, by decide +kernel, rfl, by decide +kernel, by decide +kernel⟩
def tabM : List V := [.int 21, .int 21, .int 21, .int 3, .int 201, .int 2001, .int (10 ^ 9)]
def tabO : List V := [.int 10, .int 10, .int 5, .int 1, .int 100, .int 1000, .int 500000000]
theorem tab_at {d : Int} (h0 : 0 < d) (h8 : d < 8) : ∃ m o : Int, atI tabM (d - 1) = some (.int m) ∧ atI tabO (d - 1) = some (.int o) ∧ 0 < m ∧ m ≤ 10 ^ 9 ∧ 0 ≤ o ∧ o ≤ 10 ^ 9 := by
  have : d = 1 ∨ d = 2 ∨ d = 3 ∨ d = 4 ∨ d = 5 ∨ d = 6 ∨ d = 7 := by omega
  rcases this with rfl | rfl | rfl | rfl | rfl | rfl | rfl
  all_goals exact ⟨_, _, rfl, rfl, by decide, by decide, by decide, by decide⟩
theorem ten_step {x d : Int} {i : Nat} (h0 : 0 ≤ x) (h1 : x < 10 ^ (14 * i)) (d0 : 0 ≤ d) (d1 : d < 10 ^ 14) : x * 10 ^ 14 + d < 10 ^ (14 * (i + 1)) := by
  rw [show 14 * (i + 1) = 14 * i + 14 by omega, Int.pow_add]
  generalize hy : (10 : Int) ^ (14 * i) = y at *
  omega
theorem ok_number (F : FnP K "_law_number" sNumber f fd) (FD : FnP K "_law_draw" sDraw f1 fd1) (gDraw : mg "_law_draw" = some (.ref f1)) (gRange : mg "range" = none) : FnOk P w K mg base CX0 2 f fd ["_law_pot_here"] spNumber := by
  have GD : FnOk P w K mg base CX0 1 f1 fd1 ["_law_pot_here", "_law_many"] spDraw := ok_draw FD
  have bD : Binds K fd1 ["_law_pot_here", "_law_many"] [] := FD.bindsN fun _ _ _ _ _ _ us hl => match us, hl with | [_, _], _ => rfl
  refine F.ok scNumber (fun vs H Q E h => ?_) (fun cdv A outer s H vs Q E hr h => ?_)
  · obtain ⟨p, rfl, _⟩ := h
    rfl
  · obtain ⟨p, rfl, hp, kk⟩ := h
    refine ⟨_, PSs.nox (pss_cons (ps_set (i := 1) scNumber.nd rfl (Or.inl rfl) (pe_call GD hr rfl gDraw FD.kp bD .nil pass0 (pa_cons (pv 0) (pa_cons pe_int pa_nil))))
      (pss_cons (ps_if (pt_cmpR op_eq (pv 1) pe_int (nomark _))
        (pss_cons (ps_set (i := 2) scNumber.nd rfl (Or.inl rfl) pe_int)
          (pss_cons (ps_for PassesOwn.never rfl (pi_range1 rfl gRange (pa_cons pe_int pa_nil)) (pg_name (i := 3) scNumber.nd rfl (Or.inl rfl))
              (pss_one (ps_set (i := 2) scNumber.nd rfl (Or.inl rfl) (pe_op op_add (pe_op op_mul (pv 2) (pe_op op_pow pe_int pe_int)) (pe_call GD hr rfl gDraw FD.kp bD .nil pass0 (pa_cons (pv 0) (pa_cons (pe_op op_pow pe_int pe_int) pa_nil)))))))
            (pss_one (ps_ret (pe_op op_mul (pv 2) (pe_op op_sub pe_int (pe_op op_mul pe_int (pe_call GD hr rfl gDraw FD.kp bD .nil pass0 (pa_cons (pv 0) (pa_cons pe_int pa_nil))))))))))
        pss_nil)
      (pss_one (ps_ret (pe_op op_sub (pe_call GD hr rfl gDraw FD.kp bD .nil pass0 (pa_cons (pv 0) (pa_cons (pe_ix ix_list
          (pe_lst (pa_cons pe_int (pa_cons pe_int (pa_cons pe_int (pa_cons pe_int (pa_cons pe_int (pa_cons pe_int (pa_cons (pe_op op_pow pe_int pe_int) pa_nil)))))))) (pe_op op_sub (pv 1) pe_int) (fun _ _ => rfl)) pa_nil)))
        (pe_ix ix_list (pe_lst (pa_cons pe_int (pa_cons pe_int (pa_cons pe_int (pa_cons pe_int (pa_cons pe_int (pa_cons pe_int (pa_cons pe_int pa_nil)))))))) (pe_op op_sub (pv 1) pe_int) (fun _ _ => rfl))))))), ?_⟩
    refine ⟨_, rfl, p, 8, rfl, hp, by decide, by decide, fun d H1 d0 d8 k1 hp1 => ?_⟩
    refine ⟨_, rfl, rfl, _, rfl, ?_⟩
    refine ite2 (fun h => ?_) (fun h => ?_)
    · refine ⟨4, rfl, by decide, by decide, for_range (n := 4) (fun i σ H' => ∃ (x : Int) (v : Option V), σ = [some (.ref p), some (.int d), some (.int x), v] ∧ 0 ≤ x ∧ x < 10 ^ (14 * i) ∧ Kept p H H' ∧ PotAt H' p)
        ⟨0, none, rfl, by decide, by decide, k1, hp1⟩ ?_ ?_⟩
      · rintro i σ H' hi ⟨x, v, rfl, x0, x1, k2, hp2⟩
        refine ⟨_, rfl, _, _, rfl, rfl, ⟨by decide, by decide, by decide⟩, _, _, rfl, rfl, .inr ⟨by decide, by decide⟩, ?_⟩
        refine ⟨_, rfl, _, _, rfl, rfl, ⟨by decide, by decide, by decide⟩, p, _, rfl, hp2, by decide, by decide, fun e H3 e0 e1 k3 hp3 => ?_⟩
        exact ⟨_, _, rfl, rfl, x * 10 ^ 14 + e, _, rfl, by omega, ten_step x0 x1 e0 e1, k2.trans k3, hp3⟩
      · rintro σ H' ⟨x, v, rfl, x0, x1, k2, hp2⟩
        refine ⟨_, rfl, _, rfl, p, 2, rfl, hp2, by decide, by decide, fun e H3 e0 e1 k3 hp3 => ?_⟩
        refine ⟨_, _, rfl, rfl, .inl ⟨by decide, by decide⟩, _, _, rfl, rfl, _, _, rfl, rfl, .inr ⟨by omega, by omega⟩, ?_⟩
        have : e = 0 ∨ e = 1 := by omega
        have x2 : x < 10 ^ 56 := x1
        refine kk _ _ ?_ ?_ (k2.trans k3) hp3
        · rcases this with rfl | rfl <;> omega
        · rcases this with rfl | rfl <;> omega
    · have dn : d ≠ 0 := fun z => h (decide_eq_true (by rw [z]))
      obtain ⟨m, o, e1, e2, m0, m1, o0, o1⟩ := tab_at (d := d) (by omega) d8
      refine ⟨_, rfl, _, _, rfl, rfl, ⟨by decide, by decide, by decide⟩, (by show 7 ≤ sizeLine; decide), fun l hl => ?_⟩
      refine ⟨_, rfl, _, _, rfl, rfl, l, _, _, _, rfl, rfl, SqL.of upd_same, e1, ?_⟩
      have hp2 : PotAt (upd H1 l (.lst tabM)) p := hp1.keep (Same.new (Same.refl _) hl)
      refine ⟨p, m, rfl, hp2, m0, by omega, fun e H3 e0 e1' k3 hp3 => ?_⟩
      refine ⟨(by show 7 ≤ sizeLine; decide), fun l2 hl2 => ?_⟩
      refine ⟨_, rfl, _, _, rfl, rfl, l2, _, _, _, rfl, rfl, SqL.of upd_same, e2, _, _, rfl, rfl, ?_⟩
      exact kk _ _ (by omega) (by omega) (((k1.new hl).trans k3).new hl2) (hp3.keep (Same.new (Same.refl _) hl2))
end
/-! ### is_whole, is_whole_within -/
def NoInt (K : PySem.W.Frag) (H : Hp) (v : V) : Prop := (∃ b, v = .bl b) ∨ ∃ T : String, TyX K H v (.type T) ∧ kitB T "int" = some false
def OddV (K : PySem.W.Frag) (H : Hp) (v : V) : Prop := (∃ i : Int, v = .int i ∧ (i < 0 ∨ 400 < i)) ∨ NoInt K H v
def spWhole (K : PySem.W.Frag) : Sp := fun vs H Q _ => ∃ v : V, vs = [v] ∧ ((∃ i : Int, v = .int i ∧ Q (.bl true) H) ∨ (NoInt K H v ∧ Q (.bl false) H))
def spWithin (K : PySem.W.Frag) : Sp := fun vs H Q _ => ∃ (v : V) (lo hi : Int), vs = [v, .int lo, .int hi] ∧ ((∃ i : Int, v = .int i ∧ Q (.bl (decide (lo ≤ i ∧ i ≤ hi))) H) ∨ (NoInt K H v ∧ Q (.bl false) H))
section
variable {P : Program} {w : World} {K : PySem.W.Frag} {mg : Str → Option Value} {base : Heap} {f f1 f2 f3 f4 f5 f6 C CW CN : Addr} {fd fd1 fd2 fd3 fd4 fd5 fd6 : FuncData}
theorem scWhole : FnScope ["thing"] ["thing"] (defScope sWhole) := ⟨rfl, rfl, rfl, by decide +kernel, rfl, by decide +kernel, by decide +kernel⟩
theorem ok_whole (F : FnP K "is_whole" sWhole f fd) (gIs : mg "isinstance" = none) (gInt : mg "int" = none) (gBool : mg "bool" = none) : FnOk P w K mg base CX0 1 f fd ["thing"] (spWhole K) := by
  refine F.ok scWhole (fun vs H Q E h => ?_) (fun cdv A outer s H vs Q E hr h => ?_)
  · obtain ⟨v, rfl, _⟩ := h
    rfl
  · obtain ⟨v, rfl, h⟩ := h
    refine ⟨_, PSs.nox (pss_one (ps_ret (pe_and (pe_callB call_isi (by rfl) gIs boot_isinstance (pa_cons (pv 0) (pa_cons (pe_bltn (v := .ty "int") rfl gInt PyProof.Rows.boot_int rfl) pa_nil)))
      (pe_one (pe_not (pe_callB call_isi (by rfl) gIs boot_isinstance (pa_cons (pv 0) (pa_cons (pe_bltn (v := .ty "bool") rfl gBool PyProof.Rows.boot_bool rfl) pa_nil)))))))), ?_⟩
    rcases h with ⟨i, rfl, k⟩ | ⟨⟨b, rfl⟩ | ⟨T, ty, ki⟩, k⟩
    · refine ⟨_, rfl, _, _, _, _, true, rfl, ClsV.ty _, TyX.base (TyOf.int i), kit_ty (by decide +kernel), _, rfl, iteT ?_⟩
      exact ⟨_, rfl, _, _, _, _, false, rfl, ClsV.ty _, TyX.base (TyOf.int i), kit_ty (by decide +kernel), _, rfl, k⟩
    · refine ⟨_, rfl, _, _, _, _, true, rfl, ClsV.ty _, TyX.base (TyOf.bl b), kit_ty (by decide +kernel), _, rfl, iteT ?_⟩
      exact ⟨_, rfl, _, _, _, _, true, rfl, ClsV.ty _, TyX.base (TyOf.bl b), kit_ty (by decide +kernel), _, rfl, k⟩
    · exact ⟨_, rfl, _, _, _, _, false, rfl, ClsV.ty _, ty, kit_ty ki, _, rfl, iteF k⟩
theorem scWithin : FnScope ["thing", "least", "most"] ["thing", "least", "most"] (defScope sWithin) := ⟨rfl, rfl, rfl, by decide +kernel, rfl, by decide +kernel, by decide +kernel⟩
theorem ok_within (F : FnP K "is_whole_within" sWithin f fd) (GI : FnOk P w K mg base CX0 1 f1 fd1 ["thing"] (spWhole K)) (gI : mg "is_whole" = some (.ref f1)) (kI : PySem.W.keepIn K (.ref f1) = true) (bI : Binds K fd1 ["thing"] []) : FnOk P w K mg base CX0 2 f fd ["thing", "least", "most"] (spWithin K) := by
  refine F.ok scWithin (fun vs H Q E h => ?_) (fun cdv A outer s H vs Q E hr h => ?_)
  · obtain ⟨v, lo, hi, rfl, _⟩ := h
    rfl
  · obtain ⟨v, lo, hi, rfl, h⟩ := h
    refine ⟨_, PSs.nox (pss_one (ps_ret (pe_and (pe_call GI hr rfl gI kI bI .nil pass0 (pa_cons (pv 0) pa_nil)) (pe_one (pe_chain op_le op_le (pv 1) (pv 0) (pv 2)))))), ?_⟩
    rcases h with ⟨i, rfl, k⟩ | ⟨no, k⟩
    · refine ⟨_, rfl, _, rfl, .inl ⟨i, rfl, _, rfl, iteT ?_⟩⟩
      refine ⟨_, rfl, _, rfl, _, _, rfl, rfl, _, rfl, ?_⟩
      refine ite2 (fun h => ?_) (fun h => ?_)
      · refine ⟨_, rfl, _, _, rfl, rfl, ?_⟩
        have e : decide (lo ≤ i ∧ i ≤ hi) = decide (i ≤ hi) := decide_eq_decide.mpr ⟨fun z => z.2, fun z => ⟨of_decide_eq_true h, z⟩⟩
        rw [e] at k
        exact k
      · have e : decide (lo ≤ i ∧ i ≤ hi) = false := decide_eq_false fun z => h (decide_eq_true z.1)
        rw [e] at k
        exact k
    · exact ⟨_, rfl, _, rfl, .inr ⟨no, _, rfl, iteF k⟩⟩
end
/-! ### lists of ints as data -/
theorem dp_ints {K : PySem.W.Frag} {H : Hp} : ∀ ns : List Int, DpAll K H (ns.map V.int) (ns.map PyData.int)
  | [] => .nil
  | n :: ns => .cons (.int n) (dp_ints ns)
theorem lay_ints : ∀ ns : List Int, PyData.canLayAll0 (ns.map PyData.int) = true
  | [] => rfl
  | n :: ns => by
    rw [List.map_cons, PyData.canLayAll0, lay_ints ns]
    rfl
theorem depth_ints : ∀ ns : List Int, PyData.depthAll (ns.map PyData.int) = 0
  | [] => by rw [List.map_nil, PyData.depthAll]
  | n :: ns => by
    rw [List.map_cons, PyData.depthAll, depth_ints ns, PyData.depth]
    rfl
theorem shaped_ints (ns : List Int) : SeqAt.shaped (.list (ns.map PyData.int)) = true := by
  unfold SeqAt.shaped
  rw [PyData.canLay0, lay_ints, PyData.depth, depth_ints]
  rfl
theorem eqv_ints (ns : List Int) : PyData.eqv (.list (ns.map PyData.int)) (.list (ns.map PyData.int)) = true := by
  refine SeqAt.eqv_refl _ ?_
  rw [PyData.canLay0]
  exact lay_ints ns
theorem dp_at {K : PySem.W.Frag} {H : Hp} {a : Addr} {ns : List Int} (h : H a = some (.lst (ns.map V.int))) : Dp K H (.ref a) (.list (ns.map PyData.int)) := .lst (SqL.of h) (dp_ints ns)
/-! ### need, Node.__init__, run_firing -/
abbrev FnM (K : PySem.W.Frag) (x q : Str) (st : Stmt) (f : Addr) (fd : FuncData) : Prop := FunD K x q (defArgs st) (defBody st) (defScope st) [] [] f fd
theorem Same.tup {K : PySem.W.Frag} {H H1 : Hp} {a : Addr} {xs : List V} (s : Same H H1) (h : SqT K H a xs) : SqT K H1 a xs := by
  rcases h with (h | ⟨o, h⟩) | h
  · exact .inl (.inl (s _ _ h))
  · exact .inl (.inr ⟨o, s _ _ h⟩)
  · exact .inr h
theorem Kept.at {p b : Addr} {H H1 : Hp} {o u : HO} (k : Kept p H H1) (hp : H p = some u) (hb : H b = some o) (n : o ≠ u) : H1 b = some o := k b o (fun z => n (by rw [z, hp] at hb; exact (Option.some.inj hb).symm)) hb
theorem Kept.tup {K : PySem.W.Frag} {p a : Addr} {H H1 : Hp} {xs : List V} (k : Kept p H H1) (hp : PotAt H p) (h : SqT K H a xs) : SqT K H1 a xs := by
  obtain ⟨x, y, _, _, _, hp⟩ := hp
  rcases h with (h | ⟨o, h⟩) | h
  · exact .inl (.inl (k.at hp h (fun z => by cases z)))
  · exact .inl (.inr ⟨o, k.at hp h (fun z => by cases z)⟩)
  · exact .inr h
/-- an instance of the class at C, with these fields -/
def InsAt (H : Hp) (p C : Addr) (fs : List (Str × V)) : Prop := ∃ dx, H p = some (.ins C dx fs)
theorem InsAt.keep {H H1 : Hp} {p C : Addr} {fs : List (Str × V)} (h : InsAt H p C fs) (s : Same H H1) : InsAt H1 p C fs := by
  obtain ⟨dx, h⟩ := h
  exact ⟨dx, s _ _ h⟩
theorem InsAt.kept {H H1 : Hp} {p q C : Addr} {fs : List (Str × V)} (h : InsAt H p C fs) (k : Kept q H H1) (hq : PotAt H q) : InsAt H1 p C fs := by
  obtain ⟨dx, h⟩ := h
  obtain ⟨x, y, _, _, _, hq⟩ := hq
  exact ⟨dx, k.at hq h (fun z => by cases z)⟩
def spNeed : Sp := fun vs H Q _ => ∃ v : V, vs = [.bl true, v] ∧ Q .non H
/-- what all sorts keep -/
def nodeF (tm : Addr) (l b : Int) (fs : List (Str × V)) : List (Str × V) := putF "begin_at" (.int b) (putF "late_by" (.int l) (putF "made" (.ref tm) fs))
def spNodeInit (K : PySem.W.Frag) (C : Addr) : Sp := fun vs H Q _ => ∃ (p t dx : Addr) (fs : List (Str × V)) (xs : List V) (l b : Int), vs = [.ref p, .ref t, .int l, .int b] ∧ H p = some (.ins C dx fs) ∧ SqT K H t xs ∧ (0 ≤ l ∧ l ≤ 99) ∧ (0 ≤ b ∧ b ≤ 9999) ∧
  fs.length < 900 ∧ xs.length ≤ 1000 ∧ ∀ tm, H tm = none → Q .non (upd (upd H tm (.tup (xs ++ [.int l, .int b]))) p (.ins C dx (nodeF tm l b fs)))
structure NodeC (K : PySem.W.Frag) (C : Addr) : Prop where
  cl : Cls K C
  nM : NoAttr K C "made"
  nL : NoAttr K C "late_by"
  nB : NoAttr K C "begin_at"
theorem putF_le (f : Str) (v : V) : ∀ fs : List (Str × V), (putF f v fs).length ≤ fs.length + 1
  | [] => Nat.le_refl _
  | (g, x) :: r => by
    unfold putF
    split
    · exact Nat.le_succ _
    · exact Nat.succ_le_succ (putF_le f v r)
section
variable {P : Program} {w : World} {K : PySem.W.Frag} {mg : Str → Option Value} {base : Heap} {f f1 f2 f3 f4 f5 f6 C CW CN : Addr} {fd fd1 fd2 fd3 fd4 fd5 fd6 : FuncData}
theorem scNeed : FnScope ["holds", "field"] ["holds", "field"] (defScope sNeed) := ⟨rfl, rfl, rfl, by decide +kernel, rfl, by decide +kernel, by decide +kernel⟩
theorem ok_need (F : FnP K "need" sNeed f fd) : FnOk P w K mg base CX0 1 f fd ["holds", "field"] spNeed := by
  refine F.ok scNeed (fun vs H Q E h => ?_) (fun cdv A outer s H vs Q E hr h => ?_)
  · obtain ⟨v, rfl, _⟩ := h
    rfl
  · obtain ⟨v, rfl, k⟩ := h
    refine ⟨_, PSs.nox (pss_one (ps_if (pt_not (pt_val (pv 0))) pss_never pss_nil)), ?_⟩
    exact ⟨_, rfl, _, rfl, iteF k⟩
theorem scNodeInit : FnScope ["self", "arguments", "late", "begin"] ["self", "arguments", "late", "begin"] (defScope sNodeInit) := ⟨rfl, rfl, rfl, by decide +kernel, rfl, by decide +kernel, by decide +kernel⟩
theorem ok_nodeInit (F : FnM K "__init__" "Node.__init__" sNodeInit f fd) (GN : FnOk P w K mg base CX0 1 f1 fd1 ["holds", "field"] spNeed) (gN : mg "need" = some (.ref f1)) (kN : PySem.W.keepIn K (.ref f1) = true) (bN : Binds K fd1 ["holds", "field"] [])
    (GW : FnOk P w K mg base CX0 2 f2 fd2 ["thing", "least", "most"] (spWithin K)) (gW : mg "is_whole_within" = some (.ref f2)) (kW : PySem.W.keepIn K (.ref f2) = true) (bW : Binds K fd2 ["thing", "least", "most"] [])
    (gML : ∃ t, mg "MOST_LATE" = some (.int 99 t)) (gMB : ∃ t, mg "MOST_BEGIN" = some (.int 9999 t)) (T : NodeC K C) : FnOk P w K mg base CX0 3 f fd ["self", "arguments", "late", "begin"] (spNodeInit K C) := by
  obtain ⟨tL, gL⟩ := gML
  obtain ⟨tB, gB⟩ := gMB
  refine F.ok scNodeInit (fun vs H Q E h => ?_) (fun cdv A outer s H vs Q E hr h => ?_)
  · obtain ⟨p, t, dx, fs, xs, l, b, rfl, _⟩ := h
    rfl
  · obtain ⟨p, t, dx, fs, xs, l, b, rfl, hp, ht, hl, hb, hfs, hxs, k⟩ := h
    have hr1 : Room 1 _ := hr.mono (by decide)
    refine ⟨_, PSs.nox (pss_cons (ps_expr (pe_call GN hr1 rfl gN kN bN .nil pass0 (pa_cons (pe_call GW hr rfl gW kW bW .nil pass0 (pa_cons (pv 2) (pa_cons pe_int (pa_cons (pe_glob (v := .int 99) rfl gL ⟨_, rfl⟩) pa_nil)))) (pa_cons pe_str pa_nil))))
      (pss_cons (ps_expr (pe_call GN hr1 rfl gN kN bN .nil pass0 (pa_cons (pe_call GW hr rfl gW kW bW .nil pass0 (pa_cons (pv 3) (pa_cons pe_int (pa_cons (pe_glob (v := .int 9999) rfl gB ⟨_, rfl⟩) pa_nil)))) (pa_cons pe_str pa_nil))))
      (pss_cons (ps_fld (pv 0) (pe_tup (StX.pa_star (pv 1) (pa_cons (pv 2) (pa_cons (pv 3) pa_nil)))) rfl)
      (pss_cons (ps_fld (pv 0) (pv 2) rfl) (pss_one (ps_fld (pv 0) (pv 3) rfl)))))), ?_⟩
    refine ⟨_, rfl, _, 0, 99, rfl, .inl ⟨l, rfl, ?_⟩⟩
    rw [show decide ((0 : Int) ≤ l ∧ l ≤ 99) = true from decide_eq_true hl]
    refine ⟨_, rfl, ?_⟩
    refine ⟨_, rfl, _, 0, 9999, rfl, .inl ⟨b, rfl, ?_⟩⟩
    rw [show decide ((0 : Int) ≤ b ∧ b ≤ 9999) = true from decide_eq_true hb]
    refine ⟨_, rfl, ?_⟩
    refine ⟨_, rfl, t, xs, rfl, .inl ht, _, rfl, _, rfl, ?_, fun tm htm => ?_⟩
    · rw [List.length_append]
      exact Nat.le_trans (Nat.add_le_add_right hxs _) (by show 1000 + 2 ≤ sizeLine; decide)
    have npt : p ≠ tm := ne_of_none hp htm
    have l1 := putF_le "made" (.ref tm) fs
    have l2 := putF_le "late_by" (.int l) (putF "made" (.ref tm) fs)
    refine ⟨_, rfl, p, C, dx, _, rfl, (by rw [upd_ne npt]; exact hp), T.cl, T.nM, by omega, ?_⟩
    refine ⟨_, rfl, _, rfl, p, C, dx, _, rfl, upd_same, T.cl, T.nL, by omega, ?_⟩
    refine ⟨_, rfl, _, rfl, p, C, dx, _, rfl, upd_same, T.cl, T.nB, by omega, ?_⟩
    rw [upd_upd, upd_upd]
    exact k tm htm
end
/-! ### run_firing, for an instance of the class at C whose gives() is 1 and whose work keeps spW -/
def spGives1 (C : Addr) : Sp := fun vs H Q _ => ∃ (p dx : Addr) (fs : List (Str × V)), vs = [.ref p] ∧ H p = some (.ins C dx fs) ∧ Q (.int 1) H
/-- what a firing tells: a tuple of (mutes, behind) and the list of what is given, all of it new but what is behind -/
def Told (H : Hp) (Q : VK) (m : Int) (bh gv : V) : Hp → Prop := fun H1 => ∀ (q t : Addr) (H2 : Hp), Same H1 H2 → H q = none → H2 q = some (.tup [.ref t, gv]) → H2 t = some (.tup [.int m, bh]) → Q (.ref q) H2
def spFiring (K : PySem.W.Frag) (C : Addr) (spW : Sp) : Sp := fun vs H Q _ => ∃ (p tm : Addr) (fs : List (Str × V)) (m : Int) (kept rows : V), vs = [.ref p, .ref tm, rows] ∧ InsAt H p C fs ∧ fs.lookup ("gives" : Str) = none ∧ fs.lookup ("work" : Str) = none ∧ SqT K H tm [.int m, kept] ∧
  ((0 < m ∧ ∀ (l : Addr) (H1 : Hp), Same H H1 → H l = none → H1 l = some (.lst [.int 0]) → Told H Q (m - 1) kept (.ref l) H1) ∨
   (¬ 0 < m ∧ spW [.ref p, kept, rows] H (fun v H1 => ∃ (z : Addr) (bh gv : V), v = .ref z ∧ Same H H1 ∧ SqT K H1 z [bh, gv] ∧ Told H Q m bh gv H1) E0))
/-- what is promised of more is promised of less -/
def Wide1 (sp : Sp) : Prop := ∀ (vs : List V) (H : Hp) (Q Q' : VK) (E : XK), (∀ v H', Q v H' → Q' v H') → sp vs H Q E → sp vs H Q' E
section
variable {P : Program} {w : World} {K : PySem.W.Frag} {mg : Str → Option Value} {base : Heap} {f f1 f2 f3 f4 f5 f6 C CW CN : Addr} {fd fd1 fd2 fd3 fd4 fd5 fd6 : FuncData}
theorem scFiring : FnScope ["node", "memory", "rows", "mutes", "kept", "behind", "given"] ["node", "memory", "rows"] (defScope sFiring) := ⟨rfl, rfl, rfl, by decide +kernel, rfl, by decide +kernel, by decide +kernel⟩
theorem ok_firing {spW : Sp} {k : Nat} (F : FnP K "run_firing" sFiring f fd) (c : Cls K C) (GG : FnOk P w K mg base CX0 1 f1 fd1 ["self"] (spGives1 C)) (mG : Meth K C "gives" f1) (bG : Binds K fd1 ["self"] [])
    (GW : FnOk P w K mg base CX0 (k + 1) f2 fd2 ["self", "kept", "rows"] spW) (mW : Meth K C "work" f2) (bW : Binds K fd2 ["self", "kept", "rows"] []) (wd : Wide1 spW) : FnOk P w K mg base CX0 (k + 2) f fd ["node", "memory", "rows"] (spFiring K C spW) := by
  refine F.ok scFiring (fun vs H Q E h => ?_) (fun cdv A outer s H vs Q E hr h => ?_)
  · obtain ⟨p, tm, fs, m, kept, rows, rfl, _⟩ := h
    rfl
  · obtain ⟨p, tm, fs, m, kept, rows, rfl, hp, nG, nW, hm, h⟩ := h
    have hr1 : Room 1 _ := hr.mono (by omega)
    refine ⟨_, PSs.nox (pss_cons (ps_asg (pv 1) (pg_tup rfl (pgs_cons (pg_name (i := 3) scFiring.nd rfl (Or.inl rfl)) (pgs_cons (pg_name (i := 4) scFiring.nd rfl (Or.inl rfl)) pgs_nil))))
      (pss_cons (ps_if (pt_cmpR op_gt (pv 3) pe_int (nomark _))
        (pss_one (ps_ret (pe_tup (pa_cons (pe_tup (pa_cons (pe_op op_sub (pv 3) pe_int) (pa_cons (pv 4) pa_nil))) (pa_cons (pe_op op_rep (pe_lst (pa_cons pe_int pa_nil)) (pe_meth0 (pv 0) c mG GG hr1 bG .nil pass0)) pa_nil))))) pss_nil)
      (pss_cons (ps_asg (pe_meth (pv 0) c mW GW hr bW .nil pass0 (pa_cons (pv 4) (pa_cons (pv 2) pa_nil))) (pg_tup rfl (pgs_cons (pg_name (i := 5) scFiring.nd rfl (Or.inl rfl)) (pgs_cons (pg_name (i := 6) scFiring.nd rfl (Or.inl rfl)) pgs_nil))))
      (pss_one (ps_ret (pe_tup (pa_cons (pe_tup (pa_cons (pv 3) (pa_cons (pv 5) pa_nil))) (pa_cons (pv 6) pa_nil)))))))), ?_⟩
    refine ⟨_, rfl, tm, _, rfl, hm, rfl, _, _, rfl, _, _, rfl, rfl, ?_⟩
    refine ⟨_, rfl, _, _, rfl, rfl, _, rfl, ?_⟩
    rcases h with ⟨m0, h⟩ | ⟨m0, h⟩
    · refine ite2 (fun _ => ?_) (fun z => absurd (decide_eq_true m0) z)
      refine ⟨_, rfl, _, _, rfl, rfl, _, rfl, (by show 2 ≤ sizeLine; decide), fun t ht => ?_⟩
      refine ⟨(by show 1 ≤ sizeLine; decide), fun l0 hl0 => ?_⟩
      have s2 := Same.new (o := .lst [V.int 0]) (Same.new (o := .tup [V.int (m - 1), kept]) (Same.refl H) ht) hl0
      obtain ⟨dx, hp2⟩ := hp.keep s2
      refine ⟨_, rfl, p, dx, fs, rfl, hp2, nG, p, dx, fs, rfl, hp2, ?_⟩
      refine ⟨l0, 1, _, rfl, rfl, upd_same, by decide, by decide, by show 1 * 1 ≤ sizeLine; decide, fun l hl => ?_⟩
      refine ⟨(by show 2 ≤ sizeLine; decide), fun q hq => ?_⟩
      have s3 := Same.new (o := .lst [V.int 0]) s2 hl
      have ht1 : (upd H t (.tup [V.int (m - 1), kept])) t = some (.tup [V.int (m - 1), kept]) := upd_same
      have ht2 := Same.new (o := .lst [V.int 0]) (Same.new (o := .lst [V.int 0]) (Same.refl _) hl0) hl _ _ ht1
      refine h l _ s3 (s2.free hl) upd_same q t _ (Same.new (Same.refl _) hq) (s3.free hq) upd_same ?_
      exact Same.new (Same.refl _) hq _ _ ht2
    · refine ite2 (fun z => absurd (of_decide_eq_true z) m0) (fun _ => ?_)
      obtain ⟨dx, hp2⟩ := hp
      refine ⟨_, rfl, p, dx, fs, rfl, hp2, nW, _, rfl, _, rfl, ?_⟩
      refine wd _ _ _ _ _ (fun v H1 hv => ?_) h
      obtain ⟨z, bh, gv, rfl, s1, hz, told⟩ := hv
      refine ⟨z, _, rfl, hz, rfl, _, _, rfl, _, _, rfl, rfl, ?_⟩
      refine ⟨_, rfl, _, rfl, (by show 2 ≤ sizeLine; decide), fun t ht => ?_⟩
      refine ⟨_, rfl, (by show 2 ≤ sizeLine; decide), fun q hq => ?_⟩
      have s2 := Same.new (o := .tup [V.int m, bh]) (Same.refl H1) ht
      refine told q t _ (Same.new s2 hq) ((s1.trans s2).free hq) upd_same ?_
      exact Same.new (Same.refl _) hq _ _ upd_same
end
/-! ### are_wholes, is_list_of_wholes -/
def spWholes (K : PySem.W.Frag) : Sp := fun vs H Q _ => ∃ (l : Addr) (ns : List Int), vs = [.ref l] ∧ SqL K H l (ns.map V.int) ∧ ns.length ≤ 1000 ∧ ∀ H', Same H H' → Q (.bl true) H'
def spListOf (K : PySem.W.Frag) : Sp := fun vs H Q _ => ∃ (l : Addr) (ns : List Int) (lo hi : Int), vs = [.ref l, .int lo, .int hi] ∧ H l = some (.lst (ns.map V.int)) ∧ ns.length ≤ 1000 ∧ lo ≤ (ns.length : Int) ∧ (ns.length : Int) ≤ hi ∧ ∀ H', Same H H' → Q (.bl true) H'
theorem all_true (n : Nat) : (List.replicate n true).all id = true := by
  rw [List.all_eq_true]
  intro b hb
  exact (List.mem_replicate.mp hb).2
section
variable {P : Program} {w : World} {K : PySem.W.Frag} {mg : Str → Option Value} {base : Heap} {f f1 f2 f3 f4 f5 f6 C CW CN : Addr} {fd fd1 fd2 fd3 fd4 fd5 fd6 : FuncData}
theorem scWholes : FnScope ["things", "thing"] ["things"] (defScope sWholes) := ⟨rfl, rfl, rfl, by decide +kernel, rfl, by decide +kernel, by decide +kernel⟩
theorem ok_wholes (F : FnP K "are_wholes" sWholes f fd) (GI : FnOk P w K mg base CX0 1 f1 fd1 ["thing"] (spWhole K)) (gI : mg "is_whole" = some (.ref f1)) (kI : PySem.W.keepIn K (.ref f1) = true) (bI : Binds K fd1 ["thing"] []) (gAll : mg "all" = none) :
    FnOk P w K mg base CX0 2 f fd ["things"] (spWholes K) := by
  refine F.ok scWholes (fun vs H Q E h => ?_) (fun cdv A outer s H vs Q E hr h => ?_)
  · obtain ⟨l, ns, rfl, _⟩ := h
    rfl
  · obtain ⟨l, ns, rfl, hl, few, k⟩ := h
    refine ⟨_, PSs.nox (pss_one (ps_ret (pe_callB (cr_all rfl) (by rfl) gAll (by decide +kernel) (pa_cons (pe_lc (own := [("thing", 1)]) (g := gName 1) (tt := tYes) rfl scWholes.nd (pi_list (pv 0)) (blkOk_by (N := ["things", "thing"]) (sc := defScope sWholes) (by decide +kernel))
      (fun _ _ _ _ _ => pg_name (i := 1) scWholes.nd rfl (Or.inl rfl)) (fun _ _ _ _ _ => pts_nil) (fun _ _ _ _ _ => pe_call GI hr rfl gI kI bI .nil pass0 (pa_cons (pv 1) pa_nil))) pa_nil)))), ?_⟩
    refine ⟨_, rfl, l, rfl, ⟨_, hl⟩, fun D hD => lc_list (K := K) (a := l) (xs := ns.map V.int) (fun i H' => H' = upd H D (.lst ((List.replicate i true).map V.bl))) rfl (fun i H' _ e => by rw [e]; exact Same.seq (Same.new (Same.refl _) hD) hl) (fun i v H' hv e => ?_) (fun H' e => ?_)⟩
    · subst e
      obtain ⟨u, rfl⟩ : ∃ u, v = V.int u := by
        rw [List.getElem?_map] at hv
        obtain ⟨u, _, e2⟩ := Option.map_eq_some_iff.mp hv
        exact ⟨u, e2.symm⟩
      have hi : i < ns.length := by
        have q := (List.getElem?_eq_some_iff.mp hv).1
        rw [List.length_map] at q
        exact q
      refine ⟨rfl, ?_⟩
      unfold tYes
      refine iteT ?_
      refine ⟨_, rfl, _, rfl, .inl ⟨u, rfl, _, upd_same, ?_, ?_⟩⟩
      · rw [List.length_map, List.length_replicate]
        exact Nat.lt_of_lt_of_le (show i < 1001 by omega) (by decide)
      · rw [upd_upd, List.replicate_succ', List.map_append]
        rfl
    · subst e
      refine ⟨D, _, rfl, SqL.of upd_same, ?_⟩
      rw [all_true]
      exact k _ (Same.new (Same.refl _) hD)
theorem scListOf : FnScope ["thing", "least", "most"] ["thing", "least", "most"] (defScope sListOf) := ⟨rfl, rfl, rfl, by decide +kernel, rfl, by decide +kernel, by decide +kernel⟩
theorem ok_listOf (F : FnP K "is_list_of_wholes" sListOf f fd) (GA : FnOk P w K mg base CX0 2 f1 fd1 ["things"] (spWholes K)) (gA : mg "are_wholes" = some (.ref f1)) (kA : PySem.W.keepIn K (.ref f1) = true) (bA : Binds K fd1 ["things"] [])
    (gIs : mg "isinstance" = none) (gList : mg "list" = none) (gLen : mg "len" = none) : FnOk P w K mg base CX0 3 f fd ["thing", "least", "most"] (spListOf K) := by
  refine F.ok scListOf (fun vs H Q E h => ?_) (fun cdv A outer s H vs Q E hr h => ?_)
  · obtain ⟨l, ns, lo, hi, rfl, _⟩ := h
    rfl
  · obtain ⟨l, ns, lo, hi, rfl, hl, few, h1, h2, k⟩ := h
    refine ⟨_, PSs.nox (pss_one (ps_ret (pe_and (pe_callB call_isi (by rfl) gIs boot_isinstance (pa_cons (pv 0) (pa_cons (pe_bltn (v := .ty "list") rfl gList PyProof.Rows.boot_list rfl) pa_nil)))
      (pe_and (pe_chain op_le op_le (pv 1) (pe_callB call_len_seq (by rfl) gLen PySem.boot_len (pa_cons (pv 0) pa_nil)) (pv 2)) (pe_one (pe_call GA hr rfl gA kA bA .nil pass0 (pa_cons (pv 0) pa_nil))))))), ?_⟩
    refine ⟨_, rfl, _, _, _, _, true, rfl, ClsV.ty _, TyX.base (TyOf.lst hl), kit_ty (by decide +kernel), _, rfl, iteT ?_⟩
    refine ⟨_, rfl, _, rfl, l, _, rfl, .inl (SqL.of hl), _, _, rfl, rfl, _, rfl, ?_⟩
    rw [List.length_map]
    refine ite2 (fun _ => ?_) (fun z => absurd (decide_eq_true h1) z)
    refine ⟨_, rfl, _, _, rfl, rfl, ?_⟩
    refine ⟨decide ((ns.length : Int) ≤ hi), rfl, ?_⟩
    rw [decide_eq_true h2]
    refine iteT ?_
    exact ⟨_, rfl, l, ns, rfl, SqL.of hl, few, k⟩
end
theorem nodeF_be (tm : Addr) (l b : Int) (fs : List (Str × V)) : (nodeF tm l b fs).lookup ("begin_at" : Str) = some (.int b) := by
  unfold nodeF
  rw [lookup_putF, if_pos rfl]
theorem nodeF_no {tm : Addr} {l b : Int} {fs : List (Str × V)} {m : Str} (h1 : m ≠ "begin_at") (h2 : m ≠ "late_by") (h3 : m ≠ "made") : (nodeF tm l b fs).lookup m = fs.lookup m := by
  unfold nodeF
  rw [lookup_putF, if_neg h1, lookup_putF, if_neg h2, lookup_putF, if_neg h3]
theorem nodeF_le (tm : Addr) (l b : Int) (fs : List (Str × V)) : (nodeF tm l b fs).length ≤ fs.length + 3 := by
  unfold nodeF
  have l1 := putF_le "made" (.ref tm) fs
  have l2 := putF_le "late_by" (.int l) (putF "made" (.ref tm) fs)
  have l3 := putF_le "begin_at" (.int b) (putF "late_by" (.int l) (putF "made" (.ref tm) fs))
  omega
def Num (n : Int) : Prop := -(10 ^ 56) < n ∧ n < 10 ^ 56
theorem Kept.past {p q : Addr} {H0 H : Hp} {o : HO} (k : Kept p H0 H) (h : H0 q = none) : Kept p H0 (L2.upd H q o) := fun b u n e => by
  rw [upd_ne (ne_of_none e h)]
  exact k b u n e
def spNumbers : Sp := fun vs H Q _ => ∃ (p : Addr) (m : Int), vs = [.ref p, .int m] ∧ PotAt H p ∧ 0 < m ∧ m ≤ 100 ∧ ∀ (l : Addr) (ns : List Int) (H' : Hp), Kept p H H' → PotAt H' p → H l = none → H' l = some (.lst (ns.map V.int)) → 1 ≤ ns.length → (ns.length : Int) ≤ m → (∀ n ∈ ns, Num n) → Q (.ref l) H'
theorem made_same {C x dx : Addr} {H H' : Hp} (nx : H x = none) (nd : H dx = none) (ne : dx ≠ x) (k : Kept x (upd (upd H dx (.own x)) x (.ins C dx [])) H') : Same H H' :=
  Same.kept (Same.new (Same.new (Same.refl H) nd) (by rw [upd_ne ne.symm]; exact nx)) nx k
section
variable {P : Program} {w : World} {K : PySem.W.Frag} {mg : Str → Option Value} {base : Heap} {f f1 f2 f3 f4 f5 f6 C CC CT CN : Addr} {fd fd1 fd2 fd3 fd4 fd5 fd6 : FuncData}
theorem scNumbers : FnScope ["_law_pot_here", "_law_most", "_law_k"] ["_law_pot_here", "_law_most"] (defScope sNumbers) := ⟨rfl, rfl, rfl, by decide +kernel, rfl, by decide +kernel, by decide +kernel⟩
theorem ok_numbers (F : FnP K "_law_numbers" sNumbers f fd) (GW : FnOk P w K mg base CX0 1 f1 fd1 ["_law_pot_here", "_law_many"] spDraw) (gW : mg "_law_draw" = some (.ref f1)) (kW : PySem.W.keepIn K (.ref f1) = true) (bW : Binds K fd1 ["_law_pot_here", "_law_many"] [])
    (GU : FnOk P w K mg base CX0 2 f2 fd2 ["_law_pot_here"] spNumber) (gU : mg "_law_number" = some (.ref f2)) (kU : PySem.W.keepIn K (.ref f2) = true) (bU : Binds K fd2 ["_law_pot_here"] []) (gRange : mg "range" = none) : FnOk P w K mg base CX0 3 f fd ["_law_pot_here", "_law_most"] spNumbers := by
  refine F.ok scNumbers (fun vs H Q E h => ?_) (fun cdv A outer s H vs Q E hr h => ?_)
  · obtain ⟨p, m, rfl, _⟩ := h
    rfl
  · obtain ⟨p, m, rfl, hp, m0, m1, k⟩ := h
    have hr1 : Room 1 _ := hr.mono (by decide)
    refine ⟨_, PSs.nox (pss_one (ps_ret (pe_lc (own := [("_law_k", 2)]) (g := gName 2) (tt := tYes) rfl scNumbers.nd (pi_range1 rfl gRange (pa_cons (pe_op op_add pe_int (pe_call GW hr1 rfl gW kW bW .nil pass0 (pa_cons (pv 0) (pa_cons (pv 1) pa_nil)))) pa_nil))
      (blkOk_by (N := ["_law_pot_here", "_law_most", "_law_k"]) (sc := defScope sNumbers) (by decide +kernel)) (fun _ _ _ _ _ => pg_name (i := 2) scNumbers.nd rfl (Or.inl rfl)) (fun _ _ _ _ _ => pts_nil) (fun _ _ _ _ _ => pe_call GU hr rfl gU kU bU .nil pass0 (pa_cons (pv 0) pa_nil))))), ?_⟩
    refine ⟨_, rfl, _, rfl, p, m, rfl, hp, m0, by omega, fun d H1 d0 d1 k1 hp1 => ?_⟩
    refine ⟨_, _, rfl, rfl, _, rfl, by omega, by omega, fun D hD => ?_⟩
    have nD : D ≠ p := fun z => by
      obtain ⟨_, _, _, _, _, hx⟩ := hp1
      rw [z, hx] at hD
      cases hD
    have nH : H D = none := by
      cases e : H D with
      | none => rfl
      | some o =>
        rw [k1 D o nD e] at hD
        cases hD
    refine lc_range (fun i H' => ∃ ns : List Int, ns.length = i ∧ H' D = some (.lst (ns.map V.int)) ∧ Kept p H H' ∧ PotAt H' p ∧ ∀ n ∈ ns, Num n) ⟨[], rfl, upd_same, k1.new hD, hp1.keep (Same.new (Same.refl _) hD), fun _ h => (List.not_mem_nil h).elim⟩ (fun i H' hi e => ?_) (fun H' e => ?_)
    · obtain ⟨ns, en, hd, kk, hpp, hn⟩ := e
      refine ⟨rfl, ?_⟩
      unfold tYes
      refine iteT ?_
      refine ⟨_, rfl, p, rfl, hpp, fun x H2 x0 x1 k2 hp2 => ?_⟩
      have hd2 := k2 _ _ nD hd
      refine ⟨_, hd2, ?_, ns ++ [x], ?_, ?_, (kk.trans k2).past nH, ?_, fun n hm => ?_⟩
      · rw [List.length_map, en]
        exact Nat.lt_of_lt_of_le (show i < 200 by omega) (by decide)
      · rw [List.length_append, en]
        rfl
      · rw [List.map_append]
        exact upd_same
      · obtain ⟨a1, a2, a3, a4, a5, a6⟩ := hp2
        exact ⟨a1, a2, a3, a4, a5, by rw [upd_ne nD.symm]; exact a6⟩
      · rcases List.mem_append.mp hm with h | h
        · exact hn n h
        · rcases List.mem_cons.mp h with rfl | h
          · exact ⟨x0, x1⟩
          · cases h
    · obtain ⟨ns, en, hd, kk, hpp, hn⟩ := e
      exact k D ns H' kk hpp nH hd (by omega) (by omega) hn
end
end Sw
namespace Sw
open PySem PySem.Spec PyProof.Rows L2
/-! ### what is due, by numbers alone -/
theorem Num.lt {n : Int} (h : Num n) : n.natAbs < 2 ^ 200 := by
  unfold Num at h
  omega
theorem Num.mul {x y : Int} (h : Num x) (h' : Num y) : CMulW x y := wide_mul h.lt h'.lt (by decide) (by decide) (by decide)
theorem Num.zero : Num 0 := by unfold Num; decide
/-- the sum of the numbers times the samples, the newest first -/
def tapF : List Int → List Int → Int
  | [], _ => 0
  | _ :: _, [] => 0
  | n :: ns, s :: S => n * s + tapF ns S
theorem tapF_nil : ∀ ns, tapF ns [] = 0
  | [] => rfl
  | _ :: _ => rfl
theorem tapF_zip : ∀ (ns S : List Int) (r : Nat), (List.zipWith (· * ·) ns ((S ++ List.replicate r 0).take ns.length)).sum = tapF ns S
  | [], S, r => by simp [tapF]
  | n :: ns, [], 0 => by simp [tapF]
  | n :: ns, [], r + 1 => by
    have h := tapF_zip ns [] r
    rw [tapF_nil] at h
    simp only [List.nil_append, List.take_replicate] at h
    simp [List.replicate_succ, tapF, h]
  | n :: ns, s :: S, r => by
    have h := tapF_zip ns S r
    simp [tapF, h]
def tapKept (n : Nat) (S : List Int) : List Int := (S ++ List.replicate (n - 1) 0).take (n - 1)
theorem tapKept_len (n : Nat) (S : List Int) : (tapKept n S).length = n - 1 := by
  unfold tapKept
  rw [List.length_take, List.length_append, List.length_replicate]
  omega
theorem tapKept_cons {n : Nat} (h : 1 ≤ n) (x : Int) (S : List Int) : x :: tapKept n S = ((x :: S) ++ List.replicate (n - 1) 0).take n := by
  obtain ⟨m, rfl⟩ : ∃ m, n = m + 1 := ⟨n - 1, by omega⟩
  unfold tapKept
  simp
theorem tapKept_next {n : Nat} (h : 1 ≤ n) (x : Int) (S : List Int) : (x :: tapKept n S).take (n - 1) = tapKept n (x :: S) := by
  rw [tapKept_cons h, List.take_take]
  unfold tapKept
  rw [Nat.min_eq_left (by omega)]
theorem tap_sum {ns : List Int} (h : 1 ≤ ns.length) (x : Int) (S : List Int) : (List.zipWith (· * ·) ns (x :: tapKept ns.length S)).sum = tapF ns (x :: S) := by
  rw [tapKept_cons h]
  exact tapF_zip ns (x :: S) _
theorem tapKept_num {n : Nat} {S : List Int} (h : ∀ s ∈ S, Num s) : ∀ s ∈ tapKept n S, Num s := fun s hs => by
  have h1 := List.mem_of_mem_take hs
  rcases List.mem_append.mp h1 with h2 | h2
  · exact h s h2
  · rw [List.eq_of_mem_replicate h2]
    exact Num.zero
theorem tapF_step : ∀ (ns S : List Int) (k : Nat) (n : Int), ns[k]? = some n → tapF (ns.take (k + 1)) S = tapF (ns.take k) S + (match S[k]? with | some s => n * s | none => 0)
  | [], S, k, n, h => by simp at h
  | m :: ns, [], k, n, h => by rw [tapF_nil, tapF_nil]; simp
  | m :: ns, s :: S, 0, n, h => by
    have e : m = n := by simpa using h
    simp [tapF, e]
  | m :: ns, s :: S, k + 1, n, h => by
    have r := tapF_step ns S k n (by simpa using h)
    simp only [List.take_succ_cons, tapF, List.getElem?_cons_succ]
    rw [r]
    omega
theorem tapF_big : ∀ (ns S : List Int), (∀ n ∈ ns, Num n) → (∀ s ∈ S, Num s) → (tapF ns S).natAbs ≤ ns.length * 10 ^ 112
  | [], S, _, _ => by simp [tapF]
  | n :: ns, [], _, _ => by simp [tapF]
  | n :: ns, s :: S, h, h' => by
    have r := tapF_big ns S (fun a ha => h a (List.mem_cons_of_mem _ ha)) (fun a ha => h' a (List.mem_cons_of_mem _ ha))
    have h1 := h n List.mem_cons_self
    have h2 := h' s List.mem_cons_self
    unfold Num at h1 h2
    have h3 : (n * s).natAbs ≤ 10 ^ 112 := by
      rw [Int.natAbs_mul]
      exact Nat.le_trans (Nat.mul_le_mul (show n.natAbs ≤ 10 ^ 56 by omega) (show s.natAbs ≤ 10 ^ 56 by omega)) (by decide)
    have h4 : (tapF (n :: ns) (s :: S)).natAbs ≤ (n * s).natAbs + (tapF ns S).natAbs := Int.natAbs_add_le _ _
    rw [List.length_cons, Nat.add_mul]
    omega
def smp (hist : List (List Int)) : List Int := hist.map (·.headD 0)
def latS (hist : List (List Int)) : List Int := (hist.filter fun r => decide (0 < r.headD 0)).map fun r => r.getD 1 0
def latF (hist : List (List Int)) : Int := (latS hist ++ [0]).getD ((latS hist).length - 1) 0
theorem latF_next (hist : List (List Int)) (x y : Int) : latF (hist ++ [[x, y]]) = if 0 < x then y else latF hist := by
  by_cases h : 0 < x
  · have e : latS (hist ++ [[x, y]]) = latS hist ++ [y] := by
      unfold latS
      rw [List.filter_append, List.map_append]
      simp [h]
    unfold latF
    rw [e, if_pos h, List.length_append, List.append_assoc]
    simp
  · have e : latS (hist ++ [[x, y]]) = latS hist := by
      unfold latS
      rw [List.filter_append, List.map_append]
      simp [h]
    unfold latF
    rw [e, if_neg h]
def due (ns : List Int) (hist : List (List Int)) : Int := if ns = [] then latF hist else tapF ns (smp hist).reverse
def Nums (hist : List (List Int)) : Prop := ∀ r ∈ hist, ∀ x ∈ r, Num x
theorem smp_num {hist : List (List Int)} (h : Nums hist) : ∀ s ∈ (smp hist).reverse, Num s := fun s hs => by
  unfold smp at hs
  rw [List.mem_reverse, List.mem_map] at hs
  obtain ⟨r, hr, rfl⟩ := hs
  cases r with
  | nil => exact Num.zero
  | cons a b => exact h _ hr a List.mem_cons_self
theorem latF_num {hist : List (List Int)} (h : Nums hist) : Num (latF hist) := by
  unfold latF
  rw [List.getD_eq_getElem?_getD]
  cases e : (latS hist ++ [0])[(latS hist).length - 1]? with
  | none => exact Num.zero
  | some x =>
    have hm := List.mem_of_getElem? e
    rcases List.mem_append.mp hm with h1 | h1
    · unfold latS at h1
      rw [List.mem_map] at h1
      obtain ⟨r, hr, rfl⟩ := h1
      show Num (r.getD 1 0)
      rw [List.getD_eq_getElem?_getD]
      cases e2 : r[1]? with
      | none => exact Num.zero
      | some z => exact h r (List.mem_filter.mp hr).1 z (List.mem_of_getElem? e2)
    · rcases List.mem_cons.mp h1 with rfl | h1
      · exact Num.zero
      · cases h1
set_option exponentiation.threshold 1000 in
theorem due_small {ns : List Int} {hist : List (List Int)} (hn : ∀ n ∈ ns, Num n) (hl : ns.length ≤ 12) (h : Nums hist) : (due ns hist).natAbs.log2 < 1920 := by
  unfold due
  split
  · exact log2_of (b := 200) (latF_num h).lt (by decide) (by decide)
  · refine log2_of (b := 400) ?_ (by decide) (by decide +kernel)
    have b := tapF_big ns _ hn (smp_num h)
    have b2 : ns.length * 10 ^ 112 ≤ 12 * 10 ^ 112 := Nat.mul_le_mul_right _ hl
    exact Nat.lt_of_le_of_lt (Nat.le_trans b b2) (by decide)
/-! ### lists side by side; what stands outside a few addresses -/
def Al {α β : Type} (R : α → β → Prop) : List α → List β → Prop
  | [], [] => True
  | a :: as, b :: bs => R a b ∧ Al R as bs
  | _, _ => False
theorem Al.len {α β : Type} {R : α → β → Prop} : ∀ {as : List α} {bs : List β}, Al R as bs → as.length = bs.length
  | [], [], _ => rfl
  | a :: as, b :: bs, h => by rw [List.length_cons, List.length_cons, Al.len h.2]
  | [], b :: bs, h => h.elim
  | a :: as, [], h => h.elim
theorem Al.get {α β : Type} {R : α → β → Prop} : ∀ {as : List α} {bs : List β} {i : Nat} {a : α}, Al R as bs → as[i]? = some a → ∃ b, bs[i]? = some b ∧ R a b
  | [], [], i, a, _, h => by simp at h
  | c :: as, b :: bs, 0, a, h, e => by
    have : c = a := by simpa using e
    exact ⟨b, rfl, this ▸ h.1⟩
  | c :: as, b :: bs, i + 1, a, h, e => by
    obtain ⟨b', e', r⟩ := Al.get h.2 (show as[i]? = some a by simpa using e)
    exact ⟨b', by simpa using e', r⟩
  | [], b :: bs, i, a, h, _ => h.elim
  | c :: as, [], i, a, h, _ => h.elim
theorem Al.snoc {α β : Type} {R : α → β → Prop} {a : α} {b : β} (r : R a b) : ∀ {as : List α} {bs : List β}, Al R as bs → Al R (as ++ [a]) (bs ++ [b])
  | [], [], _ => ⟨r, trivial⟩
  | c :: as, d :: bs, h => ⟨h.1, Al.snoc r h.2⟩
  | [], d :: bs, h => h.elim
  | c :: as, [], h => h.elim
theorem Al.imp {α β : Type} {R R' : α → β → Prop} (f : ∀ a b, R a b → R' a b) : ∀ {as : List α} {bs : List β}, Al R as bs → Al R' as bs
  | [], [], _ => trivial
  | c :: as, d :: bs, h => ⟨f _ _ h.1, Al.imp f h.2⟩
  | [], d :: bs, h => h.elim
  | c :: as, [], h => h.elim
def KD (D : List Addr) (H H' : Hp) : Prop := ∀ b o, b ∉ D → H b = some o → H' b = some o
theorem KD.trans {D : List Addr} {H H1 H2 : Hp} (a : KD D H H1) (b : KD D H1 H2) : KD D H H2 := fun c o n e => b c o n (a c o n e)
theorem KD.same {D : List Addr} {H H1 : Hp} (a : Same H H1) : KD D H H1 := fun c o _ e => a c o e
theorem KD.kept {D : List Addr} {p : Addr} {H H1 : Hp} (a : Kept p H H1) (h : p ∈ D) : KD D H H1 := fun c o n e => a c o (fun z => n (z ▸ h)) e
theorem KD.upd {D : List Addr} {p : Addr} {H : Hp} {o : HO} (h : p ∈ D) : KD D H (L2.upd H p o) := fun c u n e => by
  have ne : c ≠ p := fun z => n (by rw [z]; exact h)
  rw [upd_ne ne]
  exact e
def Lsts (D : List Addr) (H : Hp) : Prop := ∀ d ∈ D, ∃ xs, H d = some (.lst xs)
theorem KD.tup {K : PySem.W.Frag} {D : List Addr} {H H1 : Hp} {a : Addr} {xs : List V} (k : KD D H H1) (l : Lsts D H) (h : SqT K H a xs) : SqT K H1 a xs := by
  have out : ∀ o, H a = some o → (∀ ys, o ≠ .lst ys) → a ∉ D := fun o e n m => by
    obtain ⟨ys, q⟩ := l a m
    rw [e] at q
    exact n ys (Option.some.inj q)
  rcases h with (h | ⟨o, h⟩) | h
  · exact .inl (.inl (k _ _ (out _ h (fun ys z => by cases z)) h))
  · exact .inl (.inr ⟨o, k _ _ (out _ h (fun ys z => by cases z)) h⟩)
  · exact .inr h
theorem KD.ins {D : List Addr} {H H1 : Hp} {a C : Addr} {fs : List (Str × V)} (k : KD D H H1) (l : Lsts D H) (h : InsAt H a C fs) : InsAt H1 a C fs := by
  obtain ⟨dx, h⟩ := h
  refine ⟨dx, k _ _ (fun m => ?_) h⟩
  obtain ⟨ys, q⟩ := l a m
  rw [h] at q
  cases q
/-- a row of a firing: a list of lists of one sample -/
def RowAt (D : List Addr) (H : Hp) (e : Addr) (xs : List Int) : Prop := e ∉ D ∧ ∃ rs : List Addr, H e = some (.lst (rs.map V.ref)) ∧ Al (fun r x => r ∉ D ∧ H r = some (.lst [.int x])) rs xs
theorem RowAt.keep {D : List Addr} {H H1 : Hp} {e : Addr} {xs : List Int} (h : RowAt D H e xs) (k : KD D H H1) : RowAt D H1 e xs := by
  obtain ⟨h1, rs, h2, h3⟩ := h
  exact ⟨h1, rs, k _ _ h1 h2, h3.imp fun r x ⟨a, b⟩ => ⟨a, k _ _ a b⟩⟩
def HistAt (D : List Addr) (H : Hp) (l : Addr) (hist : List (List Int)) : Prop := ∃ es : List Addr, H l = some (.lst (es.map V.ref)) ∧ Al (RowAt D H) es hist
end Sw
namespace Sw
open PySem PySem.Spec PyProof.Rows L2
/-- a sort of node, as the law asks it -/
structure Mc (K : PySem.W.Frag) (C : Addr) where
  ι : Type
  nd : ι → Addr
  ns : ι → List Int
  objs : ι → List Addr
  many : Nat
  node : ι → Hp → Prop
  mem : ι → List (List Int) → Hp → V → Prop
  ins : ∀ i H, node i H → ∃ fs, InsAt H (nd i) C fs ∧ ∀ m : Str, m ∈ (["takes", "gives", "fresh", "fire"] : List Str) → fs.lookup m = none
  alive : ∀ i H, node i H → ∀ a ∈ objs i, H a ≠ none
  nodeKD : ∀ i D H H1, KD D H H1 → Lsts D H → (∀ a ∈ objs i, a ∉ D) → node i H → node i H1
  memKD : ∀ i D h H H1 v, KD D H H1 → Lsts D H → mem i h H v → mem i h H1 v
  manyOf : ∀ i H, node i H → (ns i = [] ∧ many = 2) ∨ (ns i ≠ [] ∧ many = 1)
  small : ∀ i H, node i H → (∀ n ∈ ns i, Num n) ∧ (ns i).length ≤ 12
section
variable {K : PySem.W.Frag} {C : Addr} (M : Mc K C)
def spMTakes : Sp := fun vs H Q _ => ∃ i : M.ι, vs = [.ref (M.nd i)] ∧ M.node i H ∧ ∀ t H', Same H H' → H' t = some (.tup (List.replicate M.many (.int 1))) → Q (.ref t) H'
def spMGives : Sp := fun vs H Q _ => ∃ i : M.ι, vs = [.ref (M.nd i)] ∧ M.node i H ∧ Q (.int 1) H
def spMFresh : Sp := fun vs H Q _ => ∃ i : M.ι, vs = [.ref (M.nd i)] ∧ M.node i H ∧ ∀ v H', Same H H' → M.mem i [] H' v → Q v H'
def spMFire : Sp := fun vs H Q _ => ∃ (i : M.ι) (hist : List (List Int)) (row : List Int) (v : V) (r : Addr), vs = [.ref (M.nd i), v, .ref r] ∧ M.node i H ∧ M.mem i hist H v ∧ RowAt [] H r row ∧ row.length = M.many ∧ (∀ x ∈ row, Num x) ∧ Nums hist ∧
  ∀ (t l : Addr) (v' : V) (H' : Hp), Same H H' → H' t = some (.tup [v', .ref l]) → M.mem i (hist ++ [row]) H' v' → H' l = some (.lst [.int (due (M.ns i) (hist ++ [row]))]) → Q (.ref t) H'
end
/-! ### Taps -/
structure TapsFs (fs : List (Str × V)) (ln : Addr) (b : Int) : Prop where
  nu : fs.lookup ("numbers" : Str) = some (.ref ln)
  be : fs.lookup ("begin_at" : Str) = some (.int b)
  no : ∀ m : Str, m ≠ "numbers" → m ≠ "begin_at" → m ≠ "late_by" → m ≠ "made" → fs.lookup m = none
theorem tapsFs_mk (tm ln : Addr) (l b : Int) : TapsFs (nodeF tm l b (putF "numbers" (.ref ln) [])) ln b := by
  refine ⟨?_, ?_, fun m h1 h3 h4 h5 => ?_⟩
  · rw [nodeF_no (by decide +kernel) (by decide +kernel) (by decide +kernel), lookup_putF, if_pos rfl]
  · rw [nodeF_be]
  · rw [nodeF_no h3 h4 h5, lookup_putF, if_neg h1]
    rfl
structure TapsC (K : PySem.W.Frag) (C : Addr) : Prop where
  n : NodeC K C
  nu : NoAttr K C "numbers"
def spTapsInit (K : PySem.W.Frag) (C : Addr) : Sp := fun vs H Q _ => ∃ (p dx ln0 : Addr) (ns : List Int) (l b : Int), vs = [.ref p, .ref ln0, .int l, .int b] ∧ H p = some (.ins C dx []) ∧ H ln0 = some (.lst (ns.map V.int)) ∧ 1 ≤ ns.length ∧ ns.length ≤ 12 ∧ (0 ≤ l ∧ l ≤ 99) ∧ (0 ≤ b ∧ b ≤ 9999) ∧
  ∀ (fs : List (Str × V)) (ln : Addr) (H' : Hp), TapsFs fs ln b → Kept p H H' → H' p = some (.ins C dx fs) → H ln = none → H' ln = some (.lst (ns.map V.int)) → Q .non H'
structure TI where
  nd : Addr
  ln : Addr
  ns : List Int
def tapsNode (C : Addr) (i : TI) (H : Hp) : Prop := ∃ fs, InsAt H i.nd C fs ∧ TapsFs fs i.ln 0 ∧ H i.ln = some (.lst (i.ns.map V.int)) ∧ 1 ≤ i.ns.length ∧ i.ns.length ≤ 12 ∧ ∀ n ∈ i.ns, Num n
def tapsM (K : PySem.W.Frag) (C : Addr) : Mc K C where
  ι := TI
  nd := TI.nd
  ns := TI.ns
  objs := fun i => [i.ln]
  many := 1
  node := tapsNode C
  mem := fun i hist H v => ∃ q kt, v = .ref q ∧ SqT K H q [.int 0, .ref kt] ∧ SqT K H kt ((tapKept i.ns.length (smp hist).reverse).map V.int)
  ins := fun i H ⟨fs, h, c, _⟩ => ⟨fs, h, fun m hm => by
    have : m = "takes" ∨ m = "gives" ∨ m = "fresh" ∨ m = "fire" := by simpa using hm
    rcases this with rfl | rfl | rfl | rfl
    all_goals exact c.no _ (by decide +kernel) (by decide +kernel) (by decide +kernel) (by decide +kernel)⟩
  alive := fun i H ⟨fs, _, _, hl, _⟩ a ha => by
    rcases List.mem_cons.mp ha with rfl | ha
    · rw [hl]
      intro z
      cases z
    · cases ha
  nodeKD := fun i D H H1 k l n ⟨fs, h, c, hl, r⟩ => ⟨fs, k.ins l h, c, k _ _ (n _ List.mem_cons_self) hl, r⟩
  memKD := fun i D h H H1 v k l ⟨q, kt, e, h1, h2⟩ => ⟨q, kt, e, k.tup l h1, k.tup l h2⟩
  manyOf := fun i H ⟨fs, _, _, _, h1, _⟩ => .inr ⟨fun z => by rw [z] at h1; exact absurd h1 (by decide), rfl⟩
  small := fun i H ⟨fs, _, _, _, _, h2, h3⟩ => ⟨h3, h2⟩
def spTapsWork (K : PySem.W.Frag) (C : Addr) : Sp := fun vs H Q _ => ∃ (i : TI) (S : List Int) (kt r r0 : Addr) (x : Int), vs = [.ref i.nd, .ref kt, .ref r] ∧ tapsNode C i H ∧ SqT K H kt ((tapKept i.ns.length S).map V.int) ∧ H r = some (.lst [.ref r0]) ∧ H r0 = some (.lst [.int x]) ∧ Num x ∧ (∀ s ∈ S, Num s) ∧
  ∀ (t l kt' : Addr) (H' : Hp), Same H H' → SqT K H' t [.ref kt', .ref l] → SqT K H' kt' ((tapKept i.ns.length (x :: S)).map V.int) → H' l = some (.lst [.int (tapF i.ns (x :: S))]) → Q (.ref t) H'
theorem wide_tapsWork {K : PySem.W.Frag} {C : Addr} : Wide1 (spTapsWork K C) := by
  rintro vs H Q Q' E hq ⟨i, S, kt, r, r0, x, e, h1, h2, h3, h4, h5, h6, kk⟩
  exact ⟨i, S, kt, r, r0, x, e, h1, h2, h3, h4, h5, h6, fun t l kt' H' a1 a2 a3 a4 => hq _ _ (kk t l kt' H' a1 a2 a3 a4)⟩
section
variable {P : Program} {w : World} {K : PySem.W.Frag} {mg : Str → Option Value} {base : Heap} {f f1 f2 f3 f4 f5 f6 C CN : Addr} {fd fd1 fd2 fd3 fd4 fd5 fd6 : FuncData}
theorem scTapsTakes : FnScope ["self"] ["self"] (defScope sTapsTakes) := ⟨rfl, rfl, rfl, by decide +kernel, rfl, by decide +kernel, by decide +kernel⟩
theorem ok_tapsTakes (F : FnM K "takes" "Taps.takes" sTapsTakes f fd) : FnOk P w K mg base CX0 1 f fd ["self"] (spMTakes (tapsM K C)) := by
  refine F.ok scTapsTakes (fun vs H Q E h => ?_) (fun cdv A outer s H vs Q E hr h => ?_)
  · obtain ⟨i, rfl, _⟩ := h
    rfl
  · obtain ⟨i, rfl, hn, k⟩ := h
    refine ⟨_, PSs.nox (pss_one (ps_ret (pe_tup (pa_cons pe_int pa_nil)))), ?_⟩
    exact ⟨(by show 1 ≤ sizeLine; decide), fun t ht => k t _ (Same.new (Same.refl _) ht) upd_same⟩
theorem scTapsGives : FnScope ["self"] ["self"] (defScope sTapsGives) := ⟨rfl, rfl, rfl, by decide +kernel, rfl, by decide +kernel, by decide +kernel⟩
theorem ok_tapsGives {sp : Sp} (hsp : ∀ vs H Q E, sp vs H Q E → vs.length = 1 ∧ Q (.int 1) H) (F : FnM K "gives" "Taps.gives" sTapsGives f fd) : FnOk P w K mg base CX0 1 f fd ["self"] sp := by
  refine F.ok scTapsGives (fun vs H Q E h => (hsp vs H Q E h).1) (fun cdv A outer s H vs Q E hr h => ?_)
  exact ⟨_, PSs.nox (pss_one (ps_ret pe_int)), (hsp vs H Q E h).2⟩
theorem scTapsFresh : FnScope ["self"] ["self"] (defScope sTapsFresh) := ⟨rfl, rfl, rfl, by decide +kernel, rfl, by decide +kernel, by decide +kernel⟩
theorem ok_tapsFresh (F : FnM K "fresh" "Taps.fresh" sTapsFresh f fd) (T : TapsC K C) (gLen : mg "len" = none) : FnOk P w K mg base CX0 1 f fd ["self"] (spMFresh (tapsM K C)) := by
  refine F.ok scTapsFresh (fun vs H Q E h => ?_) (fun cdv A outer s H vs Q E hr h => ?_)
  · obtain ⟨i, rfl, _⟩ := h
    rfl
  · obtain ⟨i, rfl, ⟨fs, ⟨dx, hi⟩, c, hl, n1, n12, _⟩, k⟩ := h
    refine ⟨_, PSs.nox (pss_one (ps_ret (pe_tup (pa_cons (pe_fld (pv 0) rfl) (pa_cons (pe_op op_times (pe_tup (pa_cons pe_int pa_nil)) (pe_op op_sub (pe_callB call_len_seq (by rfl) gLen PySem.boot_len (pa_cons (pe_fld (pv 0) rfl) pa_nil)) pe_int)) pa_nil))))), ?_⟩
    refine ⟨_, rfl, _, C, dx, _, _, rfl, hi, T.n.cl, T.n.nB, c.be, (by show 1 ≤ sizeLine; decide), fun q hq => ?_⟩
    have s1 := Same.new (o := .tup [V.int 0]) (Same.refl H) hq
    refine ⟨_, rfl, _, C, dx, _, _, rfl, s1 _ _ hi, T.n.cl, T.nu, c.nu, _, _, rfl, .inl (SqL.of (s1 _ _ hl)), _, _, rfl, rfl, ?_⟩
    obtain ⟨m, em⟩ : ∃ m : Nat, (TI.ns i).length = m + 1 := ⟨(TI.ns i).length - 1, by omega⟩
    have ek : tapKept (TI.ns i).length (smp []).reverse = List.replicate m 0 := by
      unfold tapKept smp
      rw [em]
      simp
    refine ⟨q, m, [V.int 0], rfl, ?_, .inl (.inl upd_same), by simp, by omega, by decide, fun e => ?_, fun e p hp => ?_⟩
    · have e1 : ((((TI.ns i).map V.int).length : Nat) : Int) - 1 = (m : Int) := by
        rw [List.length_map, em]
        omega
      exact congrArg V.int e1
    · refine ⟨(by show 2 ≤ sizeLine; decide), fun t ht => ?_⟩
      have s2 := Same.new (o := .tup [V.int 0, V.ref q]) (Same.refl _) ht
      refine k _ _ (s1.trans s2) ⟨t, q, rfl, .inl (.inl upd_same), .inl (.inl ?_)⟩
      rw [ek, e]
      exact s2 _ _ upd_same
    · refine ⟨(by show 2 ≤ sizeLine; decide), fun t ht => ?_⟩
      have s2 := Same.new (o := .tup (List.replicate m [V.int 0]).flatten) (Same.refl _) hp
      have s3 := Same.new (o := .tup [V.int 0, V.ref p]) (Same.refl _) ht
      refine k _ _ ((s1.trans s2).trans s3) ⟨t, p, rfl, .inl (.inl upd_same), .inl (.inl ?_)⟩
      rw [ek, List.map_replicate]
      have e2 : (List.replicate m [V.int 0]).flatten = List.replicate m (V.int 0) := by
        clear e em ek hp ht s2 s3
        induction m with
        | zero => rfl
        | succ m ih => rw [List.replicate_succ, List.flatten_cons, ih]; rfl
      rw [← e2]
      exact s3 _ _ upd_same
theorem scTapsInit : FnScope ["self", "numbers", "late", "begin"] ["self", "numbers", "late", "begin"] (defScope sTapsInit) := ⟨rfl, rfl, rfl, by decide +kernel, rfl, by decide +kernel, by decide +kernel⟩
theorem ok_tapsInit {dvs : List V} {kws : List (Str × V)} (F : FunD K "__init__" "Taps.__init__" (defArgs sTapsInit) (defBody sTapsInit) (defScope sTapsInit) dvs kws f fd) (GN : FnOk P w K mg base CX0 1 f1 fd1 ["holds", "field"] spNeed) (gN : mg "need" = some (.ref f1)) (kN : PySem.W.keepIn K (.ref f1) = true) (bN : Binds K fd1 ["holds", "field"] [])
    (GL : FnOk P w K mg base CX0 3 f2 fd2 ["thing", "least", "most"] (spListOf K)) (gL : mg "is_list_of_wholes" = some (.ref f2)) (kL : PySem.W.keepIn K (.ref f2) = true) (bL : Binds K fd2 ["thing", "least", "most"] [])
    (GB : FnOk P w K mg base CX0 3 f3 fd3 ["self", "arguments", "late", "begin"] (spNodeInit K C)) (gB : mg "Node" = some (.ref CN)) (mB : BaseM K CN "__init__" f3) (bB : Binds K fd3 ["self", "arguments", "late", "begin"] [])
    (gMost : ∃ t, mg "MOST_TAPS" = some (.int 12 t)) (gList : mg "list" = none) (T : TapsC K C) : FnOk P w K mg base CX0 4 f fd ["self", "numbers", "late", "begin"] (spTapsInit K C) := by
  obtain ⟨tM, gM⟩ := gMost
  refine F.ok scTapsInit (fun vs H Q E h => ?_) (fun cdv A outer s H vs Q E hr h => ?_)
  · obtain ⟨p, dx, ln0, ns, l, b, rfl, _⟩ := h
    rfl
  · obtain ⟨p, dx, ln0, ns, l, b, rfl, hp, hl0, n1, n12, hl, hb, k⟩ := h
    have hr1 : Room 1 _ := hr.mono (by decide)
    refine ⟨_, PSs.nox (pss_cons (ps_expr (pe_call GN hr1 rfl gN kN bN .nil pass0 (pa_cons (pe_call GL hr rfl gL kL bL .nil pass0 (pa_cons (pv 1) (pa_cons pe_int (pa_cons (pe_glob (v := .int 12) rfl gM ⟨_, rfl⟩) pa_nil)))) (pa_cons pe_str pa_nil))))
      (pss_cons (ps_fld (pv 0) (pe_callTy call_list_of (by rfl) gList PyProof.Rows.boot_list (pa_cons (pv 1) pa_nil)) rfl)
      (pss_one (ps_expr (pe_base (pe_glob (v := .ref CN) rfl gB rfl) mB GB hr bB .nil pass0 (pa_cons (pv 0) (pa_cons (pe_tup (pa_cons (pe_fld (pv 0) rfl) pa_nil)) (pa_cons (pv 2) (pa_cons (pv 3) pa_nil))))))))), ?_⟩
    refine ⟨_, rfl, ln0, ns, 1, 12, rfl, hl0, by omega, by omega, by omega, fun H1 s1 => ⟨_, rfl, ?_⟩⟩
    refine ⟨_, rfl, ln0, _, rfl, .inl (SqL.of (s1 _ _ hl0)), fun ln hln => ?_⟩
    have s2 := Same.new (o := .lst (ns.map V.int)) s1 hln
    have hp2 := s2 _ _ hp
    have nln : H ln = none := s1.free hln
    have npl : ln ≠ p := (ne_of_none hp nln).symm
    have hln2 : (upd H1 ln (.lst (ns.map V.int))) ln = some (.lst (ns.map V.int)) := upd_same
    generalize upd H1 ln (.lst (ns.map V.int)) = H2 at s2 hp2 hln2
    refine ⟨_, rfl, p, C, dx, _, rfl, hp2, T.n.cl, T.nu, by decide, ?_⟩
    have hp3 : (upd H2 p (.ins C dx (putF "numbers" (.ref ln) []))) p = some (.ins C dx (putF "numbers" (.ref ln) [])) := upd_same
    refine ⟨rfl, _, rfl, _, rfl, p, C, dx, _, _, rfl, hp3, T.n.cl, T.nu, rfl, (by show 1 ≤ sizeLine; decide), fun t ht => ?_⟩
    have hp4 := Same.new (o := .tup [V.ref ln]) (Same.refl _) ht _ _ hp3
    refine ⟨_, rfl, _, rfl, p, t, dx, putF "numbers" (.ref ln) [], [.ref ln], l, b, rfl, hp4, .inl (.inl upd_same), hl, hb, by show 1 < 900; decide, by show 1 ≤ 1000; decide, fun tm htm => ?_⟩
    have k3 : Kept p H (upd H2 p (.ins C dx (putF "numbers" (.ref ln) []))) := Kept.upd (Kept.same s2)
    have k5 : Kept p H (upd (upd (upd H2 p (.ins C dx (putF "numbers" (.ref ln) []))) t (.tup [V.ref ln])) tm (.tup ([V.ref ln] ++ [V.int l, V.int b]))) := (k3.new ht).new htm
    refine k _ ln _ (tapsFs_mk tm ln l b) (Kept.upd k5) upd_same nln ?_
    have h5 : (upd (upd (upd H2 p (.ins C dx (putF "numbers" (.ref ln) []))) t (.tup [V.ref ln])) tm (.tup ([V.ref ln] ++ [V.int l, V.int b]))) ln = some (.lst (ns.map V.int)) :=
      Same.new (Same.new (Same.refl _) ht) htm _ _ (by rw [upd_ne npl]; exact hln2)
    rw [upd_ne npl]
    exact h5
theorem scTapsFire : FnScope ["self", "memory", "rows"] ["self", "memory", "rows"] (defScope sTapsFire) := ⟨rfl, rfl, rfl, by decide +kernel, rfl, by decide +kernel, by decide +kernel⟩
theorem ok_tapsFire (F : FnM K "fire" "Taps.fire" sTapsFire f fd) (GF : FnOk P w K mg base CX0 2 f1 fd1 ["node", "memory", "rows"] (spFiring K C (spTapsWork K C))) (gF : mg "run_firing" = some (.ref f1)) (kF : PySem.W.keepIn K (.ref f1) = true) (bF : Binds K fd1 ["node", "memory", "rows"] []) :
    FnOk P w K mg base CX0 3 f fd ["self", "memory", "rows"] (spMFire (tapsM K C)) := by
  refine F.ok scTapsFire (fun vs H Q E h => ?_) (fun cdv A outer s H vs Q E hr h => ?_)
  · obtain ⟨i, hist, row, v, r, rfl, _⟩ := h
    rfl
  · obtain ⟨i, hist, row, v, r, rfl, hn, ⟨q, kt, rfl, hq, hkt⟩, ⟨_, rs, hr0, hal⟩, hm, hrow, hnums, kk⟩ := h
    obtain ⟨fs, hi, c, hn'⟩ := id hn
    obtain ⟨x, rfl⟩ : ∃ x, row = [x] := match row, hm with | [x], _ => ⟨x, rfl⟩
    obtain ⟨r0, rfl⟩ : ∃ r0, rs = [r0] := match rs, hal.len with | [r0], _ => ⟨r0, rfl⟩
    have nx : Num x := hrow x List.mem_cons_self
    refine ⟨_, PSs.nox (pss_one (ps_ret (pe_call GF hr rfl gF kF bF .nil pass0 (pa_cons (pv 0) (pa_cons (pv 1) (pa_cons (pv 2) pa_nil)))))), ?_⟩
    refine ⟨_, rfl, _, rfl, _, rfl, TI.nd i, q, fs, 0, .ref kt, .ref r, rfl, hi, c.no _ (by decide +kernel) (by decide +kernel) (by decide +kernel) (by decide +kernel), c.no _ (by decide +kernel) (by decide +kernel) (by decide +kernel) (by decide +kernel), hq, .inr ⟨by decide, ?_⟩⟩
    refine ⟨i, (smp hist).reverse, kt, r, r0, x, rfl, hn, hkt, hr0, hal.1.2, nx, smp_num hnums, fun t l kt' H1 s1 ht hkt' hl => ?_⟩
    have eS : (smp (hist ++ [[x]])).reverse = x :: (smp hist).reverse := by
      unfold smp
      rw [List.map_append, List.reverse_append]
      rfl
    refine ⟨t, _, _, rfl, s1, ht, fun t2 t3 H2 s2 _ h2 h3 => ?_⟩
    refine kk t2 l (.ref t3) H2 (s1.trans s2) h2 ⟨t3, kt', rfl, .inl (.inl h3), ?_⟩ ?_
    · rw [eS]
      exact Same.tup s2 hkt'
    · have ed : due (TI.ns i) (hist ++ [[x]]) = tapF (TI.ns i) (x :: (smp hist).reverse) := by
        unfold due
        rw [if_neg, eS]
        obtain ⟨_, _, _, _, h1, _⟩ := hn
        intro z
        rw [z] at h1
        exact absurd h1 (by decide)
      have e2 := s2 _ _ hl
      rw [← ed] at e2
      exact e2
end
end Sw
namespace Sw
open PySem PySem.Spec PyProof.Rows L2
theorem Same.past {H0 H : Hp} {q : Addr} {o : HO} (k : Same H0 H) (h : H0 q = none) : Same H0 (L2.upd H q o) := fun b u e => by
  rw [upd_ne (ne_of_none e h)]
  exact k b u e
theorem zipWith_take {ns ms : List Int} {j : Nat} {a b : Int} (h1 : ns[j]? = some a) (h2 : ms[j]? = some b) : (List.zipWith (· * ·) ns ms).take (j + 1) = (List.zipWith (· * ·) ns ms).take j ++ [a * b] := by
  rw [List.take_succ, List.getElem?_zipWith, h1, h2]
  rfl
theorem sIx_last (n d : Nat) : HT.sIx n d (some (-1)) = n - 1 := by
  show ((-1 : Int) + (n : Int)).toNat = n - 1
  omega
theorem cut_last {xs : List V} {n : Nat} (h : xs.length = n) (h1 : 1 ≤ n) : cutV xs none (some (-1)) = xs.take (n - 1) := by
  unfold cutV
  rw [HT.sIx_none, List.drop_zero]
  rw [sIx_last, h]
  rfl
section
variable {P : Program} {w : World} {K : PySem.W.Frag} {mg : Str → Option Value} {base : Heap} {f f1 f2 f3 f4 f5 f6 C CN : Addr} {fd fd1 fd2 fd3 fd4 fd5 fd6 : FuncData}
theorem scTapsWork : FnScope ["self", "kept", "rows", "samples", "total", "number", "sample"] ["self", "kept", "rows"] (defScope sTapsWork) := ⟨rfl, rfl, rfl, by decide +kernel, rfl, by decide +kernel, by decide +kernel⟩
theorem ok_tapsWork (F : FnM K "work" "Taps.work" sTapsWork f fd) (T : TapsC K C) (gSum : mg "sum" = none) (gZip : mg "zip" = none) : FnOk P w K mg base CX0 1 f fd ["self", "kept", "rows"] (spTapsWork K C) := by
  refine F.ok scTapsWork (fun vs H Q E h => ?_) (fun cdv A outer s H vs Q E hr h => ?_)
  · obtain ⟨i, S, kt, r, r0, x, rfl, _⟩ := h
    rfl
  · obtain ⟨i, S, kt, r, r0, x, rfl, ⟨fs, ⟨dx, hi⟩, c, hl, n1, n12, hns⟩, hkt, hr1, hr0, nx, nS, k⟩ := h
    have nd := scTapsWork.nd
    refine ⟨_, PSs.nox (pss_cons (ps_set (i := 3) nd rfl (Or.inl rfl) (pe_tup (pa_cons (pe_ix ix_list (pe_ix ix_list (pv 2) pe_int (fun _ _ => rfl)) pe_int (fun _ _ => rfl)) (StX.pa_star (pv 1) pa_nil))))
      (pss_cons (ps_set (i := 4) nd rfl (Or.inl rfl) (pe_callB (cr_sum rfl) (by rfl) gSum (by decide +kernel) (pa_cons
          (pe_lc (own := [("number", 5), ("sample", 6)]) (g := gTup K 2 (gCons (gName 5) (gCons (gName 6) gNil))) (tt := tYes) rfl nd (pi_zipLT rfl gZip (pa_cons (pe_fld (pv 0) rfl) (pa_cons (pv 3) pa_nil)))
            (blkOk_by (N := ["self", "kept", "rows", "samples", "total", "number", "sample"]) (sc := defScope sTapsWork) (by decide +kernel)) (fun _ _ _ _ _ => pg_tup rfl (pgs_cons (pg_name (i := 5) nd rfl (Or.inl rfl)) (pgs_cons (pg_name (i := 6) nd rfl (Or.inl rfl)) pgs_nil))) (fun _ _ _ _ _ => pts_nil) (fun _ _ _ _ _ => pe_op op_mulW (pv 5) (pv 6))) pa_nil)))
      (pss_one (ps_ret (pe_tup (pa_cons (pe_slice sl_tup (pv 3) po_none (po_some (pe_un un_neg pe_int))) (pa_cons (pe_lst (pa_cons (pv 4) pa_nil)) pa_nil))))))), ?_⟩
    have eL : (V.int x :: ((tapKept i.ns.length S).map V.int ++ [])) = (x :: tapKept i.ns.length S).map V.int := by rw [List.append_nil]; rfl
    have lL : (x :: tapKept i.ns.length S).length = i.ns.length := by
      rw [List.length_cons, tapKept_len]
      omega
    refine ⟨_, rfl, r, _, _, _, rfl, rfl, SqL.of hr1, atI_nat (j := 0) rfl, r0, _, _, _, rfl, rfl, SqL.of hr0, atI_nat (j := 0) rfl, _, rfl, kt, _, rfl, .inl hkt, ?_⟩
    refine ⟨?_, fun st hst => ?_⟩
    · show (V.int x :: ((tapKept i.ns.length S).map V.int ++ [])).length ≤ sizeLine
      rw [eL, List.length_map, lL]
      exact Nat.le_trans n12 (by decide)
    obtain ⟨H1, eH1, s1, hst1⟩ : ∃ H1, upd H st (.tup (V.int x :: ((tapKept i.ns.length S).map V.int ++ []))) = H1 ∧ Same H H1 ∧ H1 st = some (.tup ((x :: tapKept i.ns.length S).map V.int)) := ⟨_, rfl, Same.new (Same.refl H) hst, by rw [eL]; exact upd_same⟩
    show tSeq _ _ _ _ (upd H st (.tup (V.int x :: ((tapKept i.ns.length S).map V.int ++ []))))
    rw [eH1]
    refine ⟨_, rfl, i.nd, C, dx, _, _, rfl, s1 _ _ hi, T.n.cl, T.nu, c.nu, _, rfl, i.ln, st, _, _, rfl, SqL.of (s1 _ _ hl), .inl (.inl hst1), fun D hD => ?_⟩
    refine lc_it (walk_zipLT (xs := i.ns.map V.int) (ys := (x :: tapKept i.ns.length S).map V.int) (by rw [List.length_map, List.length_map, lL])) (fun j H' => H' D = some (.lst (((List.zipWith (· * ·) i.ns (x :: tapKept i.ns.length S)).take j).map V.int)) ∧ Same H1 H') ⟨upd_same, Same.past (Same.refl _) hD⟩ (fun j H' _ e => ⟨SqL.of (e.2 _ _ (s1 _ _ hl)), .inl (.inl (e.2 _ _ hst1))⟩) (fun j v H' H'' hj e y => ?_) (fun H' e => ?_)
    · obtain ⟨hd, s2⟩ := e
      obtain ⟨TT, a, b, rfl, hT, rfl, ea, eb⟩ := y
      have ea : (i.ns.map V.int)[j]? = some a := ea
      have eb : ((x :: tapKept i.ns.length S).map V.int)[j]? = some b := eb
      rw [List.getElem?_map] at ea eb
      obtain ⟨a', ea', rfl⟩ := Option.map_eq_some_iff.mp ea
      obtain ⟨b', eb', rfl⟩ := Option.map_eq_some_iff.mp eb
      refine ⟨TT, _, rfl, .inl (.inl upd_same), rfl, _, _, rfl, _, _, rfl, rfl, rfl, ?_⟩
      unfold tYes
      refine iteT ?_
      have na : Num a' := hns _ (List.mem_of_getElem? ea')
      have nb : Num b' := by
        rcases List.mem_cons.mp (List.mem_of_getElem? eb') with h | h
        · exact h ▸ nx
        · exact tapKept_num nS _ h
      have nTD : D ≠ TT := fun z => by
        rw [← z, hd] at hT
        cases hT
      refine ⟨_, rfl, _, rfl, _, _, rfl, rfl, na.mul nb, _, by rw [upd_ne nTD]; exact hd, ?_, ?_, ?_⟩
      · rw [List.length_map, List.length_take, List.length_zipWith, lL]
        exact Nat.lt_of_le_of_lt (show _ ≤ 12 by omega) (by decide)
      · rw [zipWith_take ea' eb', List.map_append]
        exact upd_same
      · exact Same.past (Same.new s2 hT) hD
    · obtain ⟨hd, s2⟩ := e
      rw [List.take_of_length_le (by rw [List.length_zipWith, lL, List.length_map]; omega)] at hd
      refine ⟨D, _, rfl, SqL.of hd, ?_⟩
      rw [tap_sum n1]
      have lx : ((x :: tapKept i.ns.length S).map V.int).length = i.ns.length := by rw [List.length_map, lL]
      refine ⟨_, rfl, _, rfl, _, rfl, st, _, rfl, .inl (.inl (s2 _ _ hst1)), fun z => ?_, fun kt' hkt' => ?_⟩
      · have z2 : HT.sIx ((x :: tapKept i.ns.length S).map V.int).length ((x :: tapKept i.ns.length S).map V.int).length (some (-1)) = ((x :: tapKept i.ns.length S).map V.int).length := z.2
        rw [sIx_last, lx] at z2
        omega
      refine ⟨_, rfl, (by show 1 ≤ sizeLine; decide), fun l hl' => ⟨(by show 2 ≤ sizeLine; decide), fun t ht => ?_⟩⟩
      have s3 := Same.new (o := .tup (cutV ((x :: tapKept i.ns.length S).map V.int) none (some (-1)))) (Same.refl H') hkt'
      have s4 := Same.new (o := .lst [V.int (tapF i.ns (x :: S))]) (Same.refl _) hl'
      have s5 := Same.new (o := .tup [V.ref kt', V.ref l]) (Same.refl _) ht
      refine k t l kt' _ ((((s1.trans s2).trans s3).trans s4).trans s5) (.inl (.inl upd_same)) (.inl (.inl ?_)) (s5 _ _ upd_same)
      rw [← tapKept_next n1, List.map_take, ← cut_last lx n1]
      exact s5 _ _ (s4 _ _ upd_same)
end
end Sw
namespace Sw
open PySem PySem.Spec PyProof.Rows L2
/-! ### Latch -/
structure LatchFs (fs : List (Str × V)) (b : Int) : Prop where
  be : fs.lookup ("begin_at" : Str) = some (.int b)
  no : ∀ m : Str, m ≠ "begin_at" → m ≠ "late_by" → m ≠ "made" → fs.lookup m = none
theorem latchFs_mk (tm : Addr) (l b : Int) : LatchFs (nodeF tm l b []) b := by
  refine ⟨nodeF_be _ _ _ _, fun m h3 h4 h5 => ?_⟩
  rw [nodeF_no h3 h4 h5]
  rfl
def spLatchInit (K : PySem.W.Frag) (C : Addr) : Sp := fun vs H Q _ => ∃ (p dx : Addr) (l b : Int), vs = [.ref p, .int l, .int b] ∧ H p = some (.ins C dx []) ∧ (0 ≤ l ∧ l ≤ 99) ∧ (0 ≤ b ∧ b ≤ 9999) ∧
  ∀ (fs : List (Str × V)) (H' : Hp), LatchFs fs b → Kept p H H' → H' p = some (.ins C dx fs) → Q .non H'
def latchNode (C : Addr) (i : Addr) (H : Hp) : Prop := ∃ fs, InsAt H i C fs ∧ LatchFs fs 0
def latchM (K : PySem.W.Frag) (C : Addr) : Mc K C where
  ι := Addr
  nd := fun i => i
  ns := fun _ => []
  objs := fun _ => []
  many := 2
  node := latchNode C
  mem := fun i hist H v => ∃ q, v = .ref q ∧ SqT K H q [.int 0, .int (latF hist)]
  ins := fun i H ⟨fs, h, c⟩ => ⟨fs, h, fun m hm => by
    have : m = "takes" ∨ m = "gives" ∨ m = "fresh" ∨ m = "fire" := by simpa using hm
    rcases this with rfl | rfl | rfl | rfl
    all_goals exact c.no _ (by decide +kernel) (by decide +kernel) (by decide +kernel)⟩
  alive := fun i H _ a ha => (List.not_mem_nil ha).elim
  nodeKD := fun i D H H1 k l n ⟨fs, h, c⟩ => ⟨fs, k.ins l h, c⟩
  memKD := fun i D h H H1 v k l ⟨q, e, h1⟩ => ⟨q, e, k.tup l h1⟩
  manyOf := fun i H _ => .inl ⟨rfl, rfl⟩
  small := fun i H _ => ⟨fun n h => (List.not_mem_nil h).elim, by decide⟩
def spLatchWork (K : PySem.W.Frag) (C : Addr) : Sp := fun vs H Q _ => ∃ (nd r r0 r1 : Addr) (h x y : Int), vs = [.ref nd, .int h, .ref r] ∧ H r = some (.lst [.ref r0, .ref r1]) ∧ H r0 = some (.lst [.int x]) ∧ H r1 = some (.lst [.int y]) ∧
  ∀ (t l : Addr) (H' : Hp), Same H H' → SqT K H' t [.int (if 0 < x then y else h), .ref l] → H' l = some (.lst [.int (if 0 < x then y else h)]) → Q (.ref t) H'
theorem wide_latchWork {K : PySem.W.Frag} {C : Addr} : Wide1 (spLatchWork K C) := by
  rintro vs H Q Q' E hq ⟨nd, r, r0, r1, h, x, y, e, h1, h2, h3, kk⟩
  exact ⟨nd, r, r0, r1, h, x, y, e, h1, h2, h3, fun t l H' a1 a2 a3 => hq _ _ (kk t l H' a1 a2 a3)⟩
section
variable {P : Program} {w : World} {K : PySem.W.Frag} {mg : Str → Option Value} {base : Heap} {f f1 f2 f3 f4 f5 f6 C CN : Addr} {fd fd1 fd2 fd3 fd4 fd5 fd6 : FuncData}
theorem scLatchTakes : FnScope ["self"] ["self"] (defScope sLatchTakes) := ⟨rfl, rfl, rfl, by decide +kernel, rfl, by decide +kernel, by decide +kernel⟩
theorem ok_latchTakes (F : FnM K "takes" "Latch.takes" sLatchTakes f fd) : FnOk P w K mg base CX0 1 f fd ["self"] (spMTakes (latchM K C)) := by
  refine F.ok scLatchTakes (fun vs H Q E h => ?_) (fun cdv A outer s H vs Q E hr h => ?_)
  · obtain ⟨i, rfl, _⟩ := h
    rfl
  · obtain ⟨i, rfl, hn, k⟩ := h
    refine ⟨_, PSs.nox (pss_one (ps_ret (pe_tup (pa_cons pe_int (pa_cons pe_int pa_nil))))), ?_⟩
    exact ⟨(by show 2 ≤ sizeLine; decide), fun t ht => k t _ (Same.new (Same.refl _) ht) upd_same⟩
theorem scLatchGives : FnScope ["self"] ["self"] (defScope sLatchGives) := ⟨rfl, rfl, rfl, by decide +kernel, rfl, by decide +kernel, by decide +kernel⟩
theorem ok_latchGives {sp : Sp} (hsp : ∀ vs H Q E, sp vs H Q E → vs.length = 1 ∧ Q (.int 1) H) (F : FnM K "gives" "Latch.gives" sLatchGives f fd) : FnOk P w K mg base CX0 1 f fd ["self"] sp := by
  refine F.ok scLatchGives (fun vs H Q E h => (hsp vs H Q E h).1) (fun cdv A outer s H vs Q E hr h => ?_)
  exact ⟨_, PSs.nox (pss_one (ps_ret pe_int)), (hsp vs H Q E h).2⟩
theorem scLatchFresh : FnScope ["self"] ["self"] (defScope sLatchFresh) := ⟨rfl, rfl, rfl, by decide +kernel, rfl, by decide +kernel, by decide +kernel⟩
theorem ok_latchFresh (F : FnM K "fresh" "Latch.fresh" sLatchFresh f fd) (T : NodeC K C) : FnOk P w K mg base CX0 1 f fd ["self"] (spMFresh (latchM K C)) := by
  refine F.ok scLatchFresh (fun vs H Q E h => ?_) (fun cdv A outer s H vs Q E hr h => ?_)
  · obtain ⟨i, rfl, _⟩ := h
    rfl
  · obtain ⟨i, rfl, ⟨fs, ⟨dx, hi⟩, c⟩, k⟩ := h
    refine ⟨_, PSs.nox (pss_one (ps_ret (pe_tup (pa_cons (pe_fld (pv 0) rfl) (pa_cons pe_int pa_nil))))), ?_⟩
    refine ⟨_, rfl, _, C, dx, _, _, rfl, hi, T.cl, T.nB, c.be, (by show 2 ≤ sizeLine; decide), fun q hq => ?_⟩
    exact k _ _ (Same.new (Same.refl _) hq) ⟨q, rfl, .inl (.inl upd_same)⟩
theorem scLatchInit : FnScope ["self", "late", "begin"] ["self", "late", "begin"] (defScope sLatchInit) := ⟨rfl, rfl, rfl, by decide +kernel, rfl, by decide +kernel, by decide +kernel⟩
theorem ok_latchInit {dvs : List V} {kws : List (Str × V)} (F : FunD K "__init__" "Latch.__init__" (defArgs sLatchInit) (defBody sLatchInit) (defScope sLatchInit) dvs kws f fd)
    (GB : FnOk P w K mg base CX0 3 f3 fd3 ["self", "arguments", "late", "begin"] (spNodeInit K C)) (gB : mg "Node" = some (.ref CN)) (mB : BaseM K CN "__init__" f3) (bB : Binds K fd3 ["self", "arguments", "late", "begin"] [])
    (T : NodeC K C) : FnOk P w K mg base CX0 4 f fd ["self", "late", "begin"] (spLatchInit K C) := by
  refine F.ok scLatchInit (fun vs H Q E h => ?_) (fun cdv A outer s H vs Q E hr h => ?_)
  · obtain ⟨p, dx, l, b, rfl, _⟩ := h
    rfl
  · obtain ⟨p, dx, l, b, rfl, hp, hl, hb, k⟩ := h
    refine ⟨_, PSs.nox (pss_one (ps_expr (pe_base (pe_glob (v := .ref CN) rfl gB rfl) mB GB hr bB .nil pass0 (pa_cons (pv 0) (pa_cons (pe_tup pa_nil) (pa_cons (pv 1) (pa_cons (pv 2) pa_nil))))))), ?_⟩
    refine ⟨rfl, _, rfl, (by show 0 ≤ sizeLine; decide), fun t ht => ?_⟩
    have hp4 := Same.new (o := .tup []) (Same.refl _) ht _ _ hp
    refine ⟨_, rfl, _, rfl, p, t, dx, [], [], l, b, rfl, hp4, .inl (.inl upd_same), hl, hb, by decide, by decide, fun tm htm => ?_⟩
    exact k _ _ (latchFs_mk tm l b) (Kept.upd (Kept.new (Kept.new Kept.refl ht) htm)) upd_same
theorem scLatchWork : FnScope ["self", "kept", "rows", "held"] ["self", "kept", "rows"] (defScope sLatchWork) := ⟨rfl, rfl, rfl, by decide +kernel, rfl, by decide +kernel, by decide +kernel⟩
theorem ok_latchWork (F : FnM K "work" "Latch.work" sLatchWork f fd) : FnOk P w K mg base CX0 1 f fd ["self", "kept", "rows"] (spLatchWork K C) := by
  refine F.ok scLatchWork (fun vs H Q E h => ?_) (fun cdv A outer s H vs Q E hr h => ?_)
  · obtain ⟨nd, r, r0, r1, h, x, y, rfl, _⟩ := h
    rfl
  · obtain ⟨nd, r, r0, r1, h, x, y, rfl, hr', h0, h1, k⟩ := h
    refine ⟨_, PSs.nox (pss_cons (ps_set (i := 3) scLatchWork.nd rfl (Or.inl rfl) (pe_ifExp (pt_cmpR op_gt (pe_ix ix_list (pe_ix ix_list (pv 2) pe_int (fun _ _ => rfl)) pe_int (fun _ _ => rfl)) pe_int (nomark _)) (pe_ix ix_list (pe_ix ix_list (pv 2) pe_int (fun _ _ => rfl)) pe_int (fun _ _ => rfl)) (pv 1)))
      (pss_one (ps_ret (pe_tup (pa_cons (pv 3) (pa_cons (pe_lst (pa_cons (pv 3) pa_nil)) pa_nil)))))), ?_⟩
    refine ⟨_, rfl, r, _, _, _, rfl, rfl, SqL.of hr', atI_nat (j := 0) rfl, r0, _, _, _, rfl, rfl, SqL.of h0, atI_nat (j := 0) rfl, _, _, rfl, rfl, _, rfl, ?_⟩
    have rest : ∀ n : Int, n = (if 0 < x then y else h) → ∀ l, H l = none → ∀ t, (upd H l (.lst [V.int n])) t = none → Q (.ref t) (upd (upd H l (.lst [V.int n])) t (.tup [V.int n, V.ref l])) := by
      intro n en l hl t ht
      subst en
      exact k t l _ (Same.new (Same.new (Same.refl _) hl) ht) (.inl (.inl upd_same)) (Same.new (Same.refl _) ht _ _ upd_same)
    refine ite2 (fun e => ?_) (fun e => ?_)
    · refine ⟨_, rfl, r, _, _, _, rfl, rfl, SqL.of hr', atI_nat (j := 1) rfl, r1, _, _, _, rfl, rfl, SqL.of h1, atI_nat (j := 0) rfl, ?_⟩
      refine ⟨_, rfl, _, rfl, (by show 1 ≤ sizeLine; decide), fun l hl => ⟨(by show 2 ≤ sizeLine; decide), fun t ht => ?_⟩⟩
      exact rest _ (by rw [if_pos (of_decide_eq_true e)]) l hl t ht
    · refine ⟨_, rfl, ?_⟩
      refine ⟨_, rfl, _, rfl, (by show 1 ≤ sizeLine; decide), fun l hl => ⟨(by show 2 ≤ sizeLine; decide), fun t ht => ?_⟩⟩
      exact rest _ (by rw [if_neg (fun z => e (decide_eq_true z))]) l hl t ht
theorem scLatchFire : FnScope ["self", "memory", "rows"] ["self", "memory", "rows"] (defScope sLatchFire) := ⟨rfl, rfl, rfl, by decide +kernel, rfl, by decide +kernel, by decide +kernel⟩
theorem ok_latchFire (F : FnM K "fire" "Latch.fire" sLatchFire f fd) (GF : FnOk P w K mg base CX0 2 f1 fd1 ["node", "memory", "rows"] (spFiring K C (spLatchWork K C))) (gF : mg "run_firing" = some (.ref f1)) (kF : PySem.W.keepIn K (.ref f1) = true) (bF : Binds K fd1 ["node", "memory", "rows"] []) :
    FnOk P w K mg base CX0 3 f fd ["self", "memory", "rows"] (spMFire (latchM K C)) := by
  refine F.ok scLatchFire (fun vs H Q E h => ?_) (fun cdv A outer s H vs Q E hr h => ?_)
  · obtain ⟨i, hist, row, v, r, rfl, _⟩ := h
    rfl
  · obtain ⟨i, hist, row, v, r, rfl, hn, ⟨q, rfl, hq⟩, ⟨_, rs, hr0, hal⟩, hm, hrow, hnums, kk⟩ := h
    obtain ⟨fs, hi, c⟩ := id hn
    obtain ⟨x, y, rfl⟩ : ∃ x y, row = [x, y] := match row, hm with | [x, y], _ => ⟨x, y, rfl⟩
    obtain ⟨r0, r1, rfl⟩ : ∃ r0 r1, rs = [r0, r1] := match rs, hal.len with | [r0, r1], _ => ⟨r0, r1, rfl⟩
    refine ⟨_, PSs.nox (pss_one (ps_ret (pe_call GF hr rfl gF kF bF .nil pass0 (pa_cons (pv 0) (pa_cons (pv 1) (pa_cons (pv 2) pa_nil)))))), ?_⟩
    refine ⟨_, rfl, _, rfl, _, rfl, i, q, fs, 0, .int (latF hist), .ref r, rfl, hi, c.no _ (by decide +kernel) (by decide +kernel) (by decide +kernel), c.no _ (by decide +kernel) (by decide +kernel) (by decide +kernel), hq, .inr ⟨by decide, ?_⟩⟩
    refine ⟨i, r, r0, r1, latF hist, x, y, rfl, hr0, hal.1.2, hal.2.1.2, fun t l H1 s1 ht hl => ?_⟩
    refine ⟨t, _, _, rfl, s1, ht, fun t2 t3 H2 s2 _ h2 h3 => ?_⟩
    have e2 := s2 _ _ hl
    rw [← latF_next] at h3 e2
    exact kk t2 l (.ref t3) H2 (s1.trans s2) h2 ⟨t3, rfl, .inl (.inl h3)⟩ e2
end
end Sw
namespace Sw
open PySem PySem.Spec PyProof.Rows L2
def Wd (m : Nat) (hist : List (List Int)) : Prop := ∀ r ∈ hist, r.length = m
def spTapped : Sp := fun vs H Q _ => ∃ (ln l : Addr) (ns : List Int) (hist : List (List Int)), vs = [.ref ln, .ref l] ∧ H ln = some (.lst (ns.map V.int)) ∧ HistAt [] H l hist ∧ Wd 1 hist ∧ Nums hist ∧ (∀ n ∈ ns, Num n) ∧ ns.length ≤ 12 ∧ hist.length ≤ 60 ∧ ∀ H', Same H H' → Q (.int (tapF ns (smp hist).reverse)) H'
def spLatched : Sp := fun vs H Q _ => ∃ (l : Addr) (hist : List (List Int)), vs = [.ref l] ∧ HistAt [] H l hist ∧ Wd 2 hist ∧ hist.length ≤ 60 ∧ ∀ H', Same H H' → Q (.int (latF hist)) H'
theorem row_head {D : List Addr} {H : Hp} {e : Addr} {xs : List Int} (h : RowAt D H e xs) (h1 : 1 ≤ xs.length) : ∃ (rs : List Addr) (r : Addr), H e = some (.lst (rs.map V.ref)) ∧ (rs.map V.ref)[0]? = some (.ref r) ∧ H r = some (.lst [.int (xs.headD 0)]) := by
  obtain ⟨_, rs, h2, al⟩ := h
  match rs, xs, al, h1 with
  | r :: rs, x :: xs, al, _ => exact ⟨_, r, h2, rfl, al.1.2⟩
  | [], x :: xs, al, _ => exact al.elim
  | _, [], _, h1 => exact absurd h1 (by decide)
theorem row_next {D : List Addr} {H : Hp} {e : Addr} {xs : List Int} (h : RowAt D H e xs) (h1 : 2 ≤ xs.length) : ∃ (rs : List Addr) (r : Addr), H e = some (.lst (rs.map V.ref)) ∧ (rs.map V.ref)[1]? = some (.ref r) ∧ H r = some (.lst [.int (xs.getD 1 0)]) := by
  obtain ⟨_, rs, h2, al⟩ := h
  match rs, xs, al, h1 with
  | r :: r' :: rs, x :: y :: xs, al, _ => exact ⟨_, r', h2, rfl, al.2.1.2⟩
  | [], x :: y :: xs, al, _ => exact al.elim
  | [r], x :: y :: xs, al, _ => exact al.2.elim
  | _, [], _, h1 => exact absurd h1 (by decide)
  | _, [x], _, h1 => exact absurd h1 (show ¬ 2 ≤ 1 by decide)
theorem RowAt.same {H H1 : Hp} {e : Addr} {xs : List Int} {D : List Addr} (h : RowAt D H e xs) (s : Same H H1) : RowAt D H1 e xs := h.keep (KD.same s)
theorem take_snoc {α β : Type} {l : List α} {j : Nat} {a : α} (g : α → β) (h : l[j]? = some a) : (l.map g).take (j + 1) = (l.map g).take j ++ [g a] := by
  rw [List.take_succ, List.getElem?_map, h]
  rfl
theorem filt_snoc {l : List (List Int)} {j : Nat} {a : List Int} (h : l[j]? = some a) : latS (l.take (j + 1)) = latS (l.take j) ++ (if 0 < a.headD 0 then [a.getD 1 0] else []) := by
  unfold latS
  rw [List.take_succ, h, List.filter_append, List.map_append]
  congr 1
  show (List.filter (fun r : List Int => decide (0 < r.headD 0)) [a]).map (fun r => r.getD 1 0) = _
  by_cases q : 0 < a.headD 0
  · rw [if_pos q, List.filter_cons_of_pos (p := fun r : List Int => decide (0 < r.headD 0)) (decide_eq_true q)]
    rfl
  · rw [if_neg q, List.filter_cons_of_neg (p := fun r : List Int => decide (0 < r.headD 0)) (fun z => q (of_decide_eq_true z))]
    rfl
theorem ix_listK {X : Cx} {K : PySem.W.Frag} (h : X.K = K) : IxR X (rIxL K) := by
  subst h
  exact ix_list
section
variable {P : Program} {w : World} {K : PySem.W.Frag} {mg : Str → Option Value} {base : Heap} {f f1 f2 f3 f4 f5 f6 C CN CT CL : Addr} {fd fd1 fd2 fd3 fd4 fd5 fd6 : FuncData}
theorem scTapped : FnScope ["_law_numbers_here", "_law_rows", "_law_samples", "_law_found", "_law_k", "_law_row"] ["_law_numbers_here", "_law_rows"] (defScope sTapped) := ⟨rfl, rfl, rfl, by decide +kernel, rfl, by decide +kernel, by decide +kernel⟩
theorem ok_tapped (F : FnP K "_law_tapped" sTapped f fd) (gLen : mg "len" = none) (gRange : mg "range" = none) : FnOk P w K mg base CX0 1 f fd ["_law_numbers_here", "_law_rows"] spTapped := by
  refine F.ok scTapped (fun vs H Q E h => ?_) (fun cdv A outer s H vs Q E hr h => ?_)
  · obtain ⟨ln, l, ns, hist, rfl, _⟩ := h
    rfl
  · obtain ⟨ln, l, ns, hist, rfl, hln, ⟨es, hl, al⟩, wd, nums, hns, n12, h60, k⟩ := h
    have nd := scTapped.nd
    refine ⟨_, PSs.nox (pss_cons (ps_setLc (i := 2) (own := [("_law_row", 5)]) (g := gName 5) (tt := tYes) rfl nd rfl rfl (sw_true rfl rfl rfl rfl) (pi_list (pv 1)) (blkOk_by (N := ["_law_numbers_here", "_law_rows", "_law_samples", "_law_found", "_law_k", "_law_row"]) (sc := defScope sTapped) (by decide +kernel))
          (fun _ _ _ _ _ => pg_name (i := 5) nd rfl (Or.inl rfl)) (fun _ _ _ _ _ => pts_nil) (fun _ _ _ _ _ => pe_ix (ix_listK (K := K) rfl) (pe_ix (ix_listK (K := K) rfl) (pv 5) pe_int (fun _ _ => rfl)) pe_int (fun _ _ => rfl)))
      (pss_cons (ps_set (i := 3) nd rfl (Or.inl rfl) pe_int)
      (pss_cons (ps_for PassesOwn.never rfl (pi_range1 rfl gRange (pa_cons (pe_callB call_len_seq (by rfl) gLen PySem.boot_len (pa_cons (pv 0) pa_nil)) pa_nil)) (pg_name (i := 4) nd rfl (Or.inl rfl))
          (pss_one (ps_if (pt_cmpR op_lt (pv 4) (pe_callB call_len_seq (by rfl) gLen PySem.boot_len (pa_cons (pv 2) pa_nil)) (nomark _))
            (pss_one (ps_set (i := 3) nd rfl (Or.inl rfl) (pe_op op_add (pv 3) (pe_op op_mulW (pe_ix ix_list (pv 0) (pv 4) (fun _ _ => rfl)) (pe_ix ix_list (pv 2) (pe_op op_sub (pe_op op_sub (pe_callB call_len_seq (by rfl) gLen PySem.boot_len (pa_cons (pv 2) pa_nil)) pe_int) (pv 4)) (fun _ _ => rfl)))))) pss_nil)))
      (pss_one (ps_ret (pv 3)))))), ?_⟩
    refine ⟨_, rfl, l, rfl, ⟨_, SqL.of hl⟩, fun D hD => ?_⟩
    refine lc_list (fun j H' => H' D = some (.lst (((smp hist).take j).map V.int)) ∧ Same H H') ⟨upd_same, Same.past (Same.refl _) hD⟩ (fun j H' _ e => SqL.of (e.2 _ _ hl)) (fun j v H' ev e => ?_) (fun H' e => ?_)
    · obtain ⟨hd, s1⟩ := e
      rw [List.getElem?_map] at ev
      obtain ⟨e0, ee, rfl⟩ := Option.map_eq_some_iff.mp ev
      obtain ⟨row, er, hrow⟩ := al.get ee
      have hw : row.length = 1 := wd _ (List.mem_of_getElem? er)
      obtain ⟨rs, r, q1, q2, q3⟩ := row_head hrow (by omega)
      refine ⟨rfl, ?_⟩
      unfold tYes
      refine iteT ?_
      refine ⟨_, rfl, e0, _, _, _, rfl, rfl, SqL.of (s1 _ _ q1), atI_nat (j := 0) q2, r, _, _, _, rfl, rfl, SqL.of (s1 _ _ q3), atI_nat (j := 0) rfl, _, hd, ?_, ?_, Same.past s1 hD⟩
      · rw [List.length_map, List.length_take]
        unfold smp
        rw [List.length_map]
        exact Nat.lt_of_le_of_lt (show _ ≤ 60 by omega) (by decide)
      · have := take_snoc (fun r : List Int => r.headD 0) er
        unfold smp
        rw [this, List.map_append]
        exact upd_same
    · obtain ⟨hd, s1⟩ := e
      rw [List.take_of_length_le (by unfold smp; rw [List.length_map, List.length_map, al.len]; exact Nat.le_refl _)] at hd
      refine ⟨_, rfl, ln, _, rfl, .inl (SqL.of (s1 _ _ hln)), _, rfl, ?_, ?_, for_range (fun j σ H2 => ∃ v, σ = [some (.ref ln), some (.ref l), some (.ref D), some (.int (tapF (ns.take j) (smp hist).reverse)), v, none] ∧ H2 = H') ⟨none, rfl, rfl⟩ ?_ ?_⟩
      · rw [List.length_map]
        omega
      · rw [List.length_map]
        omega
      · rintro j σ H2 hj ⟨v, rfl, rfl⟩
        rw [Int.toNat_natCast, List.length_map] at hj
        obtain ⟨n, en⟩ : ∃ n, ns[j]? = some n := ⟨_, List.getElem?_eq_getElem hj⟩
        have step := tapF_step ns (smp hist).reverse j n en
        refine ⟨_, rfl, _, rfl, D, _, rfl, .inl (SqL.of hd), _, _, rfl, rfl, _, rfl, ?_⟩
        have l0 : ((smp hist).map V.int).length = (smp hist).length := List.length_map ..
        refine ite2 (fun q => ?_) (fun q => ?_)
        · have hjl : j < (smp hist).length := by
            have := of_decide_eq_true q
            rw [l0] at this
            omega
          obtain ⟨x, ex⟩ : ∃ x, (smp hist).reverse[j]? = some x := ⟨_, List.getElem?_eq_getElem (by rw [List.length_reverse]; exact hjl)⟩
          have ex2 : (smp hist)[(smp hist).length - 1 - j]? = some x := by
            rw [List.getElem?_reverse hjl] at ex
            exact ex
          have nx : Num x := smp_num nums x (List.mem_of_getElem? ex)
          have nn : Num n := hns n (List.mem_of_getElem? en)
          refine ⟨_, rfl, _, rfl, _, rfl, ln, _, _, .int n, rfl, rfl, SqL.of (s1 _ _ hln), ?_, _, rfl, _, rfl, D, _, rfl, .inl (SqL.of hd), _, _, rfl, rfl, _, rfl, _, _, rfl, rfl, D, _, _, .int x, rfl, rfl, SqL.of hd, ?_, _, _, rfl, rfl, nn.mul nx, _, _, rfl, rfl, ?_⟩
          · rw [Int.zero_add]
            exact atI_nat (j := j) (by rw [List.getElem?_map, en]; rfl)
          · have e : ((((smp hist).map V.int).length : Nat) : Int) - 1 - (0 + (j : Int)) = (((smp hist).length - 1 - j : Nat) : Int) := by
              rw [l0]
              omega
            rw [e]
            exact atI_nat (by rw [List.getElem?_map, ex2]; rfl)
          · refine ⟨some (.int (0 + (j : Int))), ?_, rfl⟩
            rw [step, ex]
            rfl
        · have hjl : (smp hist).length ≤ j := by
            have := of_decide_eq_false (Bool.eq_false_iff.mpr q)
            rw [l0] at this
            omega
          refine ⟨some (.int (0 + (j : Int))), ?_, rfl⟩
          rw [step, List.getElem?_eq_none (by rw [List.length_reverse]; exact hjl)]
          show _ = [_, _, _, some (V.int (_ + 0)), _, _]
          rw [Int.add_zero]
          rfl
      · rintro σ H2 ⟨v, rfl, rfl⟩
        rw [Int.toNat_natCast, List.length_map, List.take_length]
        exact ⟨_, rfl, k _ s1⟩
end
end Sw
namespace Sw
open PySem PySem.Spec PyProof.Rows L2
theorem none_shaped : SeqAt.shaped (PyData.list []) = true := by decide +kernel
theorem eqv_none (ns : List Int) : PyData.eqv (.list (ns.map PyData.int)) (.list []) = decide (ns = []) := by
  cases ns with
  | nil => exact eqv_ints []
  | cons n ns =>
    rw [List.map_cons]
    rfl
def spGiven : Sp := fun vs H Q _ => ∃ (ln l : Addr) (ns : List Int) (hist : List (List Int)), vs = [.ref ln, .ref l] ∧ H ln = some (.lst (ns.map V.int)) ∧ HistAt [] H l hist ∧ (ns = [] → Wd 2 hist) ∧ (ns ≠ [] → Wd 1 hist) ∧ Nums hist ∧ (∀ n ∈ ns, Num n) ∧ ns.length ≤ 12 ∧ hist.length ≤ 60 ∧
  ∀ (g : Addr) (H' : Hp), Same H H' → H' g = some (.lst [.int (due ns hist)]) → Q (.ref g) H'
theorem HistAt.same {D : List Addr} {H H1 : Hp} {l : Addr} {hist : List (List Int)} (h : HistAt D H l hist) (s : Same H H1) : HistAt D H1 l hist := by
  obtain ⟨es, h1, h2⟩ := h
  exact ⟨es, s _ _ h1, h2.imp fun a b r => r.same s⟩
/-- what is made -/
def Md (K : PySem.W.Frag) (CT CL : Addr) (ns : List Int) (H H' : Hp) (n : V) : Prop := (ns = [] ∧ ∃ i : Addr, n = .ref i ∧ latchNode CL i H') ∨ (ns ≠ [] ∧ ∃ i : TI, n = .ref i.nd ∧ tapsNode CT i H' ∧ i.ns = ns ∧ H i.ln = none)
def spMade (K : PySem.W.Frag) (CT CL : Addr) : Sp := fun vs H Q _ => ∃ (ln : Addr) (ns : List Int), vs = [.ref ln] ∧ H ln = some (.lst (ns.map V.int)) ∧ (∀ n ∈ ns, Num n) ∧ ns.length ≤ 12 ∧ ∀ (n : V) (H' : Hp), Same H H' → Md K CT CL ns H H' n → Q n H'
section
variable {P : Program} {w : World} {K : PySem.W.Frag} {mg : Str → Option Value} {base : Heap} {f f1 f2 f3 f4 f5 f6 C CN CT CL : Addr} {fd fd1 fd2 fd3 fd4 fd5 fd6 : FuncData}
theorem scLatched : FnScope ["_law_rows", "_law_some", "_law_row"] ["_law_rows"] (defScope sLatched) := ⟨rfl, rfl, rfl, by decide +kernel, rfl, by decide +kernel, by decide +kernel⟩
theorem ok_latched (F : FnP K "_law_latched" sLatched f fd) (gLen : mg "len" = none) (gMax : mg "max" = none) : FnOk P w K mg base CX0 1 f fd ["_law_rows"] spLatched := by
  refine F.ok scLatched (fun vs H Q E h => ?_) (fun cdv A outer s H vs Q E hr h => ?_)
  · obtain ⟨l, hist, rfl, _⟩ := h
    rfl
  · obtain ⟨l, hist, rfl, ⟨es, hl, al⟩, wd, h60, k⟩ := h
    have nd := scLatched.nd
    refine ⟨_, PSs.nox (pss_cons (ps_setLc (i := 1) (own := [("_law_row", 2)]) (g := gName 2) rfl nd rfl rfl (sw_true rfl rfl rfl rfl) (pi_list (pv 0)) (blkOk_by (N := ["_law_rows", "_law_some", "_law_row"]) (sc := defScope sLatched) (by decide +kernel))
          (fun _ _ _ _ _ => pg_name (i := 2) nd rfl (Or.inl rfl)) (fun _ _ _ _ _ => pts_one (pt_cmpR op_gt (pe_ix (ix_listK (K := K) rfl) (pe_ix (ix_listK (K := K) rfl) (pv 2) pe_int (fun _ _ => rfl)) pe_int (fun _ _ => rfl)) pe_int (nomark _)))
          (fun _ _ _ _ _ => pe_ix (ix_listK (K := K) rfl) (pe_ix (ix_listK (K := K) rfl) (pv 2) pe_int (fun _ _ => rfl)) pe_int (fun _ _ => rfl)))
      (pss_one (ps_ret (pe_ix ix_list (pe_op op_cat (pv 1) (pe_lst (pa_cons pe_int pa_nil))) (pe_callB (call_max2 rfl) (by rfl) gMax (by decide +kernel) (pa_cons pe_int (pa_cons (pe_op op_sub (pe_callB call_len_seq (by rfl) gLen PySem.boot_len (pa_cons (pv 1) pa_nil)) pe_int) pa_nil))) (fun _ _ => rfl))))), ?_⟩
    refine ⟨_, rfl, l, rfl, ⟨_, SqL.of hl⟩, fun D hD => ?_⟩
    have len : ∀ j, (latS (hist.take j)).length ≤ 60 := fun j => by
      unfold latS
      rw [List.length_map]
      exact Nat.le_trans (List.length_filter_le _ _) (by rw [List.length_take]; omega)
    refine lc_list (fun j H' => H' D = some (.lst ((latS (hist.take j)).map V.int)) ∧ Same H H') ⟨upd_same, Same.past (Same.refl _) hD⟩ (fun j H' _ e => SqL.of (e.2 _ _ hl)) (fun j v H' ev e => ?_) (fun H' e => ?_)
    · obtain ⟨hd, s1⟩ := e
      rw [List.getElem?_map] at ev
      obtain ⟨e0, ee, rfl⟩ := Option.map_eq_some_iff.mp ev
      obtain ⟨row, er, hrow⟩ := al.get ee
      have hw : row.length = 2 := wd _ (List.mem_of_getElem? er)
      obtain ⟨rs, r, q1, q2, q3⟩ := row_head hrow (by omega)
      obtain ⟨rs2, r2, p1, p2, p3⟩ := row_next hrow (by omega)
      have fs := filt_snoc er
      refine ⟨rfl, ?_⟩
      refine ⟨_, rfl, e0, _, _, _, rfl, rfl, SqL.of (s1 _ _ q1), atI_nat (j := 0) q2, r, _, _, _, rfl, rfl, SqL.of (s1 _ _ q3), atI_nat (j := 0) rfl, _, _, rfl, rfl, _, rfl, ?_⟩
      refine ite2 (fun z => ?_) (fun z => ?_)
      · rw [if_pos (of_decide_eq_true z)] at fs
        refine ⟨_, rfl, e0, _, _, _, rfl, rfl, SqL.of (s1 _ _ p1), atI_nat (j := 1) p2, r2, _, _, _, rfl, rfl, SqL.of (s1 _ _ p3), atI_nat (j := 0) rfl, _, hd, ?_, ?_, Same.past s1 hD⟩
        · rw [List.length_map]
          exact Nat.lt_of_le_of_lt (len j) (by decide)
        · rw [fs, List.map_append]
          exact upd_same
      · rw [if_neg (of_decide_eq_false (Bool.eq_false_iff.mpr z)), List.append_nil] at fs
        rw [fs]
        exact ⟨hd, s1⟩
    · obtain ⟨hd, s1⟩ := e
      have e1 : hist.take (es.map V.ref).length = hist := List.take_of_length_le (by rw [List.length_map, al.len]; exact Nat.le_refl _)
      have ll := len hist.length
      rw [List.take_length] at ll
      rw [e1] at hd
      refine ⟨_, rfl, (by show 1 ≤ sizeLine; decide), fun z hz => ?_⟩
      have s2 := Same.new (o := .lst [V.int 0]) (Same.refl H') hz
      refine ⟨D, z, _, _, rfl, rfl, s2 _ _ hd, upd_same, ?_, fun q hq => ?_⟩
      · rw [List.length_map]
        exact Nat.le_trans (show _ ≤ 61 by show _ + 1 ≤ 61; omega) (by decide)
      have s3 := Same.new (o := .lst ((latS hist).map V.int ++ [V.int 0])) (Same.refl _) hq
      refine ⟨_, rfl, D, _, rfl, .inl (SqL.of (s3 _ _ (s2 _ _ hd))), _, _, rfl, rfl, _, _, rfl, ?_⟩
      refine ⟨q, _, _, .int (latF hist), rfl, rfl, SqL.of upd_same, ?_, k _ ((s1.trans s2).trans s3)⟩
      have e2 : (if ((((latS hist).map V.int).length : Nat) : Int) - 1 > 0 then ((((latS hist).map V.int).length : Nat) : Int) - 1 else 0) = (((latS hist).length - 1 : Nat) : Int) := by
        rw [List.length_map]
        split <;> omega
      rw [e2]
      refine atI_nat ?_
      have e3 : (latS hist).map V.int ++ [V.int 0] = (latS hist ++ [0]).map V.int := by rw [List.map_append]; rfl
      rw [e3, List.getElem?_map]
      unfold latF
      rw [List.getD_eq_getElem?_getD, List.getElem?_eq_getElem (by rw [List.length_append]; show _ < _ + 1; omega)]
      rfl
theorem scGiven : FnScope ["_law_numbers_here", "_law_rows"] ["_law_numbers_here", "_law_rows"] (defScope sGiven) := ⟨rfl, rfl, rfl, by decide +kernel, rfl, by decide +kernel, by decide +kernel⟩
theorem ok_given (F : FnP K "_law_given" sGiven f fd) (GT : FnOk P w K mg base CX0 1 f1 fd1 ["_law_numbers_here", "_law_rows"] spTapped) (gT : mg "_law_tapped" = some (.ref f1)) (kT : PySem.W.keepIn K (.ref f1) = true) (bT : Binds K fd1 ["_law_numbers_here", "_law_rows"] [])
    (GL : FnOk P w K mg base CX0 1 f2 fd2 ["_law_rows"] spLatched) (gL : mg "_law_latched" = some (.ref f2)) (kL : PySem.W.keepIn K (.ref f2) = true) (bL : Binds K fd2 ["_law_rows"] []) : FnOk P w K mg base CX0 2 f fd ["_law_numbers_here", "_law_rows"] spGiven := by
  refine F.ok scGiven (fun vs H Q E h => ?_) (fun cdv A outer s H vs Q E hr h => ?_)
  · obtain ⟨ln, l, ns, hist, rfl, _⟩ := h
    rfl
  · obtain ⟨ln, l, ns, hist, rfl, hln, hh, w2, w1, nums, hns, n12, h60, k⟩ := h
    have hu := hr.units
    refine ⟨_, PSs.nox (pss_cons (ps_if (pt_cmpR (op_eqD hu) (pv 0) (pe_lst pa_nil) (nomark _)) (pss_one (ps_ret (pe_lst (pa_cons (pe_call GL hr rfl gL kL bL .nil pass0 (pa_cons (pv 1) pa_nil)) pa_nil)))) pss_nil)
      (pss_one (ps_ret (pe_lst (pa_cons (pe_call GT hr rfl gT kT bT .nil pass0 (pa_cons (pv 0) (pa_cons (pv 1) pa_nil))) pa_nil))))), ?_⟩
    refine ⟨_, rfl, (by show 0 ≤ sizeLine; decide), fun z hz => ?_⟩
    have s1 := Same.new (o := .lst []) (Same.refl H) hz
    refine ⟨_, _, dp_at (s1 _ _ hln), dp_at (ns := []) upd_same, shaped_ints _, none_shaped, _, rfl, ?_⟩
    rw [show PyData.eqv (.list (ns.map PyData.int)) (.list (([] : List Int).map PyData.int)) = decide (ns = []) from eqv_none ns]
    refine ite2 (fun e => ?_) (fun e => ?_)
    · have en : ns = [] := of_decide_eq_true e
      refine ⟨_, rfl, l, hist, rfl, hh.same s1, w2 en, h60, fun H1 s2 => ⟨(by show 1 ≤ sizeLine; decide), fun g hg => ?_⟩⟩
      refine k g _ ((s1.trans s2).trans (Same.new (Same.refl _) hg)) ?_
      unfold due
      rw [if_pos en]
      exact upd_same
    · have en : ns ≠ [] := of_decide_eq_false (Bool.eq_false_iff.mpr e)
      refine ⟨_, rfl, _, rfl, ln, l, ns, hist, rfl, s1 _ _ hln, hh.same s1, w1 en, nums, hns, n12, h60, fun H1 s2 => ⟨(by show 1 ≤ sizeLine; decide), fun g hg => ?_⟩⟩
      refine k g _ ((s1.trans s2).trans (Same.new (Same.refl _) hg)) ?_
      unfold due
      rw [if_neg en]
      exact upd_same
theorem scMade : FnScope ["_law_numbers_here", "_law_handed", "_law_node"] ["_law_numbers_here"] (defScope sMade) := ⟨rfl, rfl, rfl, by decide +kernel, rfl, by decide +kernel, by decide +kernel⟩
theorem ok_made {ds1 ds2 : List Value} (F : FnP K "_law_made" sMade f fd) (MT : Mk K CT f3) (GI : FnOk P w K mg base CX0 4 f3 fd3 ["self", "numbers", "late", "begin"] (spTapsInit K CT)) (gT : mg "Taps" = some (.ref CT)) (b1 : Binds K fd3 ["self", "numbers", "late", "begin"] ds1) (v1 : Vals [.int 0, .int 0] ds1)
    (ML : Mk K CL f4) (GJ : FnOk P w K mg base CX0 4 f4 fd4 ["self", "late", "begin"] (spLatchInit K CL)) (gL : mg "Latch" = some (.ref CL)) (b2 : Binds K fd4 ["self", "late", "begin"] ds2) (v2 : Vals [.int 0, .int 0] ds2) (gList : mg "list" = none) : FnOk P w K mg base CX0 6 f fd ["_law_numbers_here"] (spMade K CT CL) := by
  refine F.ok scMade (fun vs H Q E h => ?_) (fun cdv A outer s H vs Q E hr h => ?_)
  · obtain ⟨ln, ns, rfl, _⟩ := h
    rfl
  · obtain ⟨ln, ns, rfl, hln, hns, n12, k⟩ := h
    have hu := hr.units
    have nd := scMade.nd
    refine ⟨_, PSs.nox (pss_cons (ps_if (pt_cmpR (op_eqD hu) (pv 0) (pe_lst pa_nil) (nomark _)) (pss_one (ps_ret (pe_make0 ML GJ hr rfl gL b2 v2 pass0))) pss_nil)
      (pss_cons (ps_set (i := 1) nd rfl (Or.inl rfl) (pe_callTy call_list_of (by rfl) gList PyProof.Rows.boot_list (pa_cons (pv 0) pa_nil)))
      (pss_cons (ps_set (i := 2) nd rfl (Or.inl rfl) (pe_make MT GI hr rfl gT b1 v1 pass0 (pa_cons (pv 1) pa_nil)))
      (pss_cons (ps_expr (pe_bm PySem.F.plainAttrs_list PySem.F.slot_list_append PySem.F.type_list_append mt_append (pv 1) (pa_cons pe_int pa_nil)))
      (pss_cons (ps_expr (pe_bm0 PySem.F.plainAttrs_list PySem.F.slot_list_reverse PySem.F.type_list_reverse mt_reverse (pv 1)))
      (pss_one (ps_ret (pv 2)))))))), ?_⟩
    refine ⟨_, rfl, (by show 0 ≤ sizeLine; decide), fun z hz => ?_⟩
    have s1 := Same.new (o := .lst []) (Same.refl H) hz
    refine ⟨_, _, dp_at (s1 _ _ hln), dp_at (ns := []) upd_same, shaped_ints _, none_shaped, _, rfl, ?_⟩
    rw [show PyData.eqv (.list (ns.map PyData.int)) (.list (([] : List Int).map PyData.int)) = decide (ns = []) from eqv_none ns]
    generalize upd H z (.lst []) = H1 at s1
    refine ite2 (fun e => ?_) (fun e => ?_)
    · have en : ns = [] := of_decide_eq_true e
      refine fun x dx nx ndx ne => ?_
      refine ⟨x, dx, 0, 0, rfl, upd_same, by decide, by decide, fun fs H2 cf k7 hx => ⟨rfl, ?_⟩⟩
      exact k _ _ (s1.trans (made_same nx ndx ne k7)) (.inl ⟨en, x, rfl, fs, ⟨dx, hx⟩, cf⟩)
    · have en : ns ≠ [] := of_decide_eq_false (Bool.eq_false_iff.mpr e)
      have n1 : 1 ≤ ns.length := by
        cases ns with
        | nil => exact absurd rfl en
        | cons a b => exact Nat.succ_le_succ (Nat.zero_le _)
      refine ⟨_, rfl, ln, _, rfl, .inl (SqL.of (s1 _ _ hln)), fun h hh => ?_⟩
      have s2 := Same.new (o := .lst (ns.map V.int)) s1 hh
      have nh : H h = none := s1.free hh
      have hh2 : (upd H1 h (.lst (ns.map V.int))) h = some (.lst (ns.map V.int)) := upd_same
      generalize upd H1 h (.lst (ns.map V.int)) = H2 at s2 hh2
      refine ⟨_, rfl, fun x dx nx ndx ne => ?_⟩
      have hhx : upd (upd H2 dx (.own x)) x (.ins CT dx []) h = some (.lst (ns.map V.int)) := by
        rw [upd_ne (fun z => by rw [← z, hh2] at nx; cases nx), upd_ne (fun z => by rw [← z, hh2] at ndx; cases ndx)]
        exact hh2
      refine ⟨x, dx, h, ns, 0, 0, rfl, upd_same, hhx, n1, n12, by decide, by decide, fun fs lt H3 cf k7 hx nlt hlt => ⟨rfl, ?_⟩⟩
      have s3 := made_same nx ndx ne k7
      have n1' : lt ≠ x := fun z => by
        rw [z, upd_same] at nlt
        cases nlt
      have n2' : lt ≠ dx := fun z => by
        rw [upd_ne n1', z, upd_same] at nlt
        cases nlt
      have n3' : H2 lt = none := by
        rw [upd_ne n1', upd_ne n2'] at nlt
        exact nlt
      have nlh : lt ≠ h := fun z => by
        rw [z, hh2] at n3'
        cases n3'
      have nxh : x ≠ h := fun z => by
        rw [z, hh2] at nx
        cases nx
      refine ⟨_, rfl, .inl ⟨rfl, _, SqL.of (s3 _ _ hh2)⟩, h, _, _, rfl, rfl, s3 _ _ hh2, ?_, ?_⟩
      · rw [List.length_map]
        exact Nat.lt_of_le_of_lt n12 (by decide)
      refine ⟨_, rfl, .inl ⟨rfl, _, SqL.of upd_same⟩, h, _, rfl, rfl, upd_same, ?_⟩
      refine ⟨_, rfl, k _ _ (Same.past (Same.past (s2.trans s3) nh) nh) (.inr ⟨en, ⟨x, lt, ns⟩, rfl, ?_, rfl, s2.free n3'⟩)⟩
      refine ⟨fs, ⟨dx, ?_⟩, cf, ?_, n1, n12, hns⟩
      · show upd (upd H3 h _) h _ x = _
        rw [upd_ne nxh, upd_ne nxh]
        exact hx
      · show upd (upd H3 h _) h _ lt = _
        rw [upd_ne nlh, upd_ne nlh]
        exact hlt
end
end Sw
namespace Sw
open PySem PySem.Spec PyProof.Rows L2
/-! ### what the law holds while it fires -/
structure Ap (p ml tl ln : Addr) (ts os : List Addr) : Prop where
  pm : ml ≠ p
  pt : ∀ t ∈ ts, t ≠ p
  mt : ∀ t ∈ ts, t ≠ ml
  tt : ∀ (m n : Nat) (t : Addr), ts[m]? = some t → ts[n]? = some t → m = n
  tl : tl ∉ p :: ml :: ts
  ln : ln ∉ p :: ml :: ts
  os : ∀ a ∈ os, a ∉ p :: ml :: ts
structure Lv {K : PySem.W.Frag} {C : Addr} (M : Mc K C) (i : M.ι) (p ml tl ln : Addr) (ts : List Addr) (hs : List (List (List Int))) (es : List V) (H : Hp) : Prop where
  pot : PotAt H p
  hm : H ml = some (.lst es)
  ht : H tl = some (.lst (ts.map V.ref))
  hn : H ln = some (.lst ((M.ns i).map V.int))
  his : ∀ (n : Nat) (t : Addr) (h : List (List Int)), ts[n]? = some t → hs[n]? = some h → HistAt (p :: ml :: ts) H t h
  mem : ∀ (n : Nat) (e : V) (h : List (List Int)), es[n]? = some e → hs[n]? = some h → M.mem i h H e
  nd : M.node i H
  num : ∀ (n : Nat) (h : List (List Int)), hs[n]? = some h → Nums h ∧ Wd M.many h
  l1 : hs.length = ts.length
  l2 : es.length = ts.length
section
variable {K : PySem.W.Frag} {C : Addr} {M : Mc K C} {i : M.ι} {p ml tl ln : Addr} {ts : List Addr} {hs : List (List (List Int))} {es : List V} {H H1 H2 : Hp}
theorem Lv.lsts (L : Lv M i p ml tl ln ts hs es H) : Lsts (p :: ml :: ts) H := fun d hd => by
  rcases List.mem_cons.mp hd with rfl | hd
  · obtain ⟨_, _, _, _, _, h⟩ := L.pot
    exact ⟨_, h⟩
  · rcases List.mem_cons.mp hd with rfl | hd
    · exact ⟨_, L.hm⟩
    · obtain ⟨n, hn⟩ := List.getElem?_of_mem hd
      have hlt : n < hs.length := by
        rw [L.l1]
        exact (List.getElem?_eq_some_iff.mp hn).1
      obtain ⟨q, h, _⟩ := L.his n d _ hn (List.getElem?_eq_getElem hlt)
      exact ⟨_, h⟩
theorem Lv.kd (L : Lv M i p ml tl ln ts hs es H) (A : Ap p ml tl ln ts (M.objs i)) (k : Kept p H H1) (hp : PotAt H1 p) : Lv M i p ml tl ln ts hs es H1 := by
  have kd : KD (p :: ml :: ts) H H1 := KD.kept k List.mem_cons_self
  refine ⟨hp, k _ _ A.pm L.hm, kd _ _ A.tl L.ht, kd _ _ A.ln L.hn, fun n t h e1 e2 => ?_, fun n e h e1 e2 => M.memKD i _ h H H1 e kd L.lsts (L.mem n e h e1 e2), M.nodeKD i _ H H1 kd L.lsts A.os L.nd, L.num, L.l1, L.l2⟩
  obtain ⟨q, h1, h2⟩ := L.his n t h e1 e2
  exact ⟨q, k _ _ (A.pt t (List.mem_of_getElem? e1)) h1, h2.imp fun a b r => r.keep kd⟩
theorem Lv.same (L : Lv M i p ml tl ln ts hs es H) (A : Ap p ml tl ln ts (M.objs i)) (s : Same H H1) : Lv M i p ml tl ln ts hs es H1 := L.kd A (Kept.same s) (L.pot.keep s)
/-- one firing more: what was taken is put behind, the memory is set -/
theorem Lv.next {n : Nat} {t EL : Addr} {h : List (List Int)} {row : List Int} {qs : List Addr} {v : V} (L : Lv M i p ml tl ln ts hs es H) (A : Ap p ml tl ln ts (M.objs i)) (et : ts[n]? = some t) (eh : hs[n]? = some h) (hq : H t = some (.lst (qs.map V.ref))) (hr : RowAt (p :: ml :: ts) H EL row)
    (wr : row.length = M.many) (nr : ∀ x ∈ row, Num x) (s : Same (upd H t (.lst (qs.map V.ref ++ [V.ref EL]))) H1) (hv : M.mem i (h ++ [row]) H1 v) : Lv M i p ml tl ln ts (hs.set n (h ++ [row])) (es.set n v) (upd H1 ml (.lst (es.set n v))) := by
  have mt : t ∈ ts := List.mem_of_getElem? et
  have k1 : KD (p :: ml :: ts) H (upd H t (.lst (qs.map V.ref ++ [V.ref EL]))) := KD.upd (List.mem_cons_of_mem _ (List.mem_cons_of_mem _ mt))
  have k2 : KD (p :: ml :: ts) H H1 := k1.trans (KD.same s)
  have kB : KD (p :: ml :: ts) H1 (upd H1 ml (.lst (es.set n v))) := KD.upd (List.mem_cons_of_mem _ List.mem_cons_self)
  have k3 := k2.trans kB
  have hm1 : H1 ml = some (.lst es) := s _ _ (by rw [upd_ne (A.mt t mt).symm]; exact L.hm)
  have ls1 : Lsts [ml] H1 := fun d hd => by
    rcases List.mem_cons.mp hd with rfl | hd
    · exact ⟨_, hm1⟩
    · cases hd
  have nlt : n < ts.length := (List.getElem?_eq_some_iff.mp et).1
  refine ⟨?_, upd_same, k3 _ _ A.tl L.ht, k3 _ _ A.ln L.hn, fun m t' h' e1 e2 => ?_, fun m e h' e1 e2 => ?_, M.nodeKD i _ H _ k3 L.lsts A.os L.nd, fun m h' e2 => ?_, by rw [List.length_set]; exact L.l1, by rw [List.length_set]; exact L.l2⟩
  · obtain ⟨a1, a2, a3, a4, a5, a6⟩ := L.pot
    exact ⟨a1, a2, a3, a4, a5, by rw [upd_ne A.pm.symm]; exact s _ _ (by rw [upd_ne (A.pt t mt).symm]; exact a6)⟩
  · have nm : t' ≠ ml := A.mt t' (List.mem_of_getElem? e1)
    by_cases e : m = n
    · subst e
      rw [et] at e1
      cases e1
      rw [List.getElem?_set_self (by rw [L.l1]; exact nlt)] at e2
      cases e2
      obtain ⟨q2, hq2, al⟩ := L.his m t h et eh
      rw [hq] at hq2
      have eq2 : qs = q2 := by
        have := HO.lst.inj (Option.some.inj hq2)
        exact List.map_inj_right (fun a b z => V.ref.inj z) |>.mp this
      subst eq2
      refine ⟨qs ++ [EL], ?_, (al.imp fun a b r => r.keep k3).snoc (hr.keep k3)⟩
      rw [upd_ne nm, List.map_append]
      exact s _ _ upd_same
    · rw [List.getElem?_set_ne (Ne.symm e)] at e2
      obtain ⟨q2, hq2, al⟩ := L.his m t' h' e1 e2
      have nt : t' ≠ t := fun z => e (A.tt m n t (by rw [← z]; exact e1) et)
      refine ⟨q2, ?_, al.imp fun a b r => r.keep k3⟩
      rw [upd_ne nm]
      exact s _ _ (by rw [upd_ne nt]; exact hq2)
  · by_cases e' : m = n
    · subst e'
      rw [List.getElem?_set_self (by rw [L.l1]; exact nlt)] at e2
      rw [List.getElem?_set_self (by rw [L.l2]; exact nlt)] at e1
      cases e1
      cases e2
      exact M.memKD i [ml] _ H1 _ v (KD.upd List.mem_cons_self) ls1 hv
    · rw [List.getElem?_set_ne (Ne.symm e')] at e1 e2
      exact M.memKD i _ _ H _ e k3 L.lsts (L.mem m e h' e1 e2)
  · by_cases e' : m = n
    · subst e'
      rw [List.getElem?_set_self (by rw [L.l1]; exact nlt)] at e2
      cases e2
      obtain ⟨n1, n2⟩ := L.num m h eh
      refine ⟨fun r hr' => ?_, fun r hr' => ?_⟩
      · rcases List.mem_append.mp hr' with z | z
        · exact n1 r z
        · rcases List.mem_cons.mp z with rfl | z
          · exact nr
          · cases z
      · rcases List.mem_append.mp hr' with z | z
        · exact n2 r z
        · rcases List.mem_cons.mp z with rfl | z
          · exact wr
          · cases z
    · rw [List.getElem?_set_ne (Ne.symm e')] at e2
      exact L.num m h' e2
end
/-! ### rows as data -/
def rowD (xs : List Int) : PyData := .list (xs.map fun x => .list [.int x])
theorem lay_rows : ∀ xs : List Int, PyData.canLayAll0 (xs.map fun x => PyData.list [.int x]) = true
  | [] => rfl
  | n :: ns => by
    rw [List.map_cons, PyData.canLayAll0, lay_rows ns]
    rfl
theorem depth_rows : ∀ xs : List Int, PyData.depthAll (xs.map fun x => PyData.list [.int x]) ≤ 1
  | [] => by rw [List.map_nil, PyData.depthAll]; exact Nat.zero_le _
  | n :: ns => by
    rw [List.map_cons, PyData.depthAll]
    have h := depth_rows ns
    have e : PyData.depth (PyData.list [.int n]) = 1 := by
      rw [PyData.depth]
      rfl
    rw [e]
    omega
theorem row_shaped (xs : List Int) : SeqAt.shaped (rowD xs) = true := by
  unfold SeqAt.shaped rowD
  rw [PyData.canLay0, lay_rows, PyData.depth]
  have h := depth_rows xs
  simp
  omega
theorem row_eqv (xs : List Int) : PyData.eqv (rowD xs) (rowD xs) = true := by
  refine SeqAt.eqv_refl _ ?_
  unfold rowD
  rw [PyData.canLay0]
  exact lay_rows xs
theorem dp_cells {K : PySem.W.Frag} {D : List Addr} {H : Hp} : ∀ {rs : List Addr} {xs : List Int}, Al (fun r x => r ∉ D ∧ H r = some (.lst [.int x])) rs xs → DpAll K H (rs.map V.ref) (xs.map fun x => .list [.int x])
  | [], [], _ => .nil
  | r :: rs, x :: xs, h => .cons (dp_at (ns := [x]) h.1.2) (dp_cells h.2)
  | [], x :: xs, h => h.elim
  | r :: rs, [], h => h.elim
theorem dp_row {K : PySem.W.Frag} {D : List Addr} {H : Hp} {e : Addr} {xs : List Int} (h : RowAt D H e xs) : Dp K H (.ref e) (rowD xs) := by
  obtain ⟨_, rs, h1, al⟩ := h
  exact .lst (SqL.of h1) (dp_cells al)
end Sw
namespace Sw
open PySem PySem.Spec PyProof.Rows L2
theorem call_list_ofK {X : Cx} {K : PySem.W.Frag} (h : X.K = K) : CallR X (.type "list") (fun xs H Q => ∃ p ys, xs = [.ref p] ∧ (SqL K H p ys ∨ SqT K H p ys) ∧ ∀ l, H l = none → Q (.ref l) (upd H l (.lst ys))) := by
  subst h
  exact call_list_of
def spMRight {K : PySem.W.Frag} {C : Addr} (M : Mc K C) : Sp := fun vs H Q _ => ∃ (i : M.ι) (p ln : Addr), vs = [.ref p, .ref (M.nd i), .ref ln] ∧ PotAt H p ∧ M.node i H ∧ (∀ a ∈ M.objs i, a ≠ p) ∧ ln ≠ p ∧ H ln = some (.lst ((M.ns i).map V.int)) ∧ ∀ H', Kept p H H' → PotAt H' p → Q (.bl true) H'
theorem one_dp {K : PySem.W.Frag} {H : Hp} {l : Addr} {x : Int} (h : H l = some (.lst [.int x])) : Dp K H (.ref l) (.list [.int x]) := dp_at (ns := [x]) h
theorem oneD_show {x : Int} (h : x.natAbs.log2 < 1920) : (PyData.list [.int x]).showable = true := by
  simp [PyData.showable, PyData.showableAll, h]
theorem oneD_len {x : Int} (h : x.natAbs.log2 < 1920) : (PyData.list [.int x]).shown.length ≤ sizeLine := by
  refine Nat.le_trans (shown_list (B := 1921) fun d hd => ?_) (by show (1921 + 2) * 1 + 3 ≤ sizeLine; decide)
  rcases List.mem_cons.mp hd with rfl | hd
  · exact shown_num h
  · cases hd
theorem oneD_shaped (x : Int) : SeqAt.shaped (PyData.list [.int x]) = true := shaped_ints [x]
def onesD (m : Nat) : PyData := .tuple (List.replicate m (.int 1))
theorem ones_ok {m : Nat} (h : m = 2 ∨ m = 1) : SeqAt.shaped (onesD m) = true ∧ PyData.eqv (onesD m) (onesD m) = true := by
  rcases h with rfl | rfl
  · exact ⟨by decide +kernel, by decide +kernel⟩
  · exact ⟨by decide +kernel, by decide +kernel⟩
theorem dp_ones {K : PySem.W.Frag} {H : Hp} : ∀ m, DpAll K H (List.replicate m (V.int 1)) (List.replicate m (PyData.int 1))
  | 0 => .nil
  | m + 1 => .cons (.int 1) (dp_ones m)
theorem flat_ones : ∀ m : Nat, (List.replicate m [V.int 1]).flatten = List.replicate m (V.int 1)
  | 0 => rfl
  | m + 1 => by
    rw [List.replicate_succ, List.flatten_cons, flat_ones m]
    rfl
theorem ite_many {b : Bool} {k : Int → Prop} {m : Int} (h2 : b = true → m = 2) (h1 : b = false → m = 1) (h : k m) : if b = true then k 2 else k 1 := by
  cases b with
  | true => rw [h2 rfl] at h; exact h
  | false => rw [h1 rfl] at h; exact h
def rTimesS (K : PySem.W.Frag) : R2 := fun x y H Q => ∃ (l : Addr) (k : Nat) (xs : List V), x = .ref l ∧ y = .int (k : Int) ∧ SqT K H l xs ∧ xs ≠ [] ∧ k ≤ 1000 ∧ xs.length ≤ 1000 ∧ ∀ (q : Addr) (H' : Hp), Same H H' → SqT K H' q (List.replicate k xs).flatten → Q (.ref q) H'
theorem op_timesS {X : Cx} : OpR X (binaryOp .Mult) (rTimesS X.K) := by
  intro pins s σ H x y v u Q I rx ry ⟨l, k, xs, e1, e2, h1, h2, h3, h4, q⟩
  refine op_times pins s σ H x y v u Q I rx ry ⟨l, k, xs, e1, e2, h1, h2, h3, h4, fun e => q l H (Same.refl _) ?_, fun e p hp => q p _ (Same.new (Same.refl _) hp) (.inl (.inl upd_same))⟩
  rw [e]
  simpa using h1
theorem RowAt.weak {D : List Addr} {H : Hp} {e : Addr} {xs : List Int} (h : RowAt D H e xs) : RowAt [] H e xs := by
  obtain ⟨_, rs, h1, al⟩ := h
  exact ⟨List.not_mem_nil, rs, h1, al.imp fun r x z => ⟨List.not_mem_nil, z.2⟩⟩
theorem HistAt.weak {D : List Addr} {H : Hp} {l : Addr} {hist : List (List Int)} (h : HistAt D H l hist) : HistAt [] H l hist := by
  obtain ⟨es, h1, al⟩ := h
  exact ⟨es, h1, al.imp fun a b r => r.weak⟩
section
variable {P : Program} {w : World} {K : PySem.W.Frag} {mg : Str → Option Value} {base : Heap} {f f1 f2 f3 f4 f5 f6 f7 C CN CT CL : Addr} {fd fd1 fd2 fd3 fd4 fd5 fd6 fd7 : FuncData}
abbrev nRight : List Str := ["_law_pot_here", "_law_node", "_law_numbers_here", "_law_many", "_law_memories", "_law_taken", "_law_k", "_law_at", "_law_rows", "_law_given_here", "_law_place", "_law_row"]
theorem scLRight : FnScope nRight ["_law_pot_here", "_law_node", "_law_numbers_here"] (defScope sLRight) := ⟨rfl, rfl, rfl, by decide +kernel, rfl, by decide +kernel, by decide +kernel⟩
theorem ok_lRight (M : Mc K C) (F : FnP K "_law_right" sLRight f fd) (c : Cls K C)
    (GT : FnOk P w K mg base CX0 1 f1 fd1 ["self"] (spMTakes M)) (mT : Meth K C "takes" f1) (bT : Binds K fd1 ["self"] []) (GG : FnOk P w K mg base CX0 1 f2 fd2 ["self"] (spMGives M)) (mG : Meth K C "gives" f2) (bG : Binds K fd2 ["self"] [])
    (GR : FnOk P w K mg base CX0 1 f3 fd3 ["self"] (spMFresh M)) (mR : Meth K C "fresh" f3) (bR : Binds K fd3 ["self"] []) (GF : FnOk P w K mg base CX0 3 f4 fd4 ["self", "memory", "rows"] (spMFire M)) (mF : Meth K C "fire" f4) (bF : Binds K fd4 ["self", "memory", "rows"] [])
    (GD : FnOk P w K mg base CX0 2 f5 fd5 ["_law_numbers_here", "_law_rows"] spGiven) (gD : mg "_law_given" = some (.ref f5)) (kD : PySem.W.keepIn K (.ref f5) = true) (bD : Binds K fd5 ["_law_numbers_here", "_law_rows"] [])
    (GW : FnOk P w K mg base CX0 1 f6 fd6 ["_law_pot_here", "_law_many"] spDraw) (gW : mg "_law_draw" = some (.ref f6)) (kW : PySem.W.keepIn K (.ref f6) = true) (bW : Binds K fd6 ["_law_pot_here", "_law_many"] [])
    (GU : FnOk P w K mg base CX0 2 f7 fd7 ["_law_pot_here"] spNumber) (gU : mg "_law_number" = some (.ref f7)) (kU : PySem.W.keepIn K (.ref f7) = true) (bU : Binds K fd7 ["_law_pot_here"] [])
    (gRange : mg "range" = none) (gRepr : mg "repr" = none) (gList : mg "list" = none) : FnG P w K mg base CX0 6 f fd ["_law_pot_here", "_law_node", "_law_numbers_here"] (spMRight M) := by
  refine F.okG scLRight (fun vs H Q E h => ?_) (fun cdv A outer s H vs Q E hr guard h => ?_)
  · obtain ⟨i, p, ln, rfl, _⟩ := h
    rfl
  · obtain ⟨i, p, ln, rfl, hp, hn, nop, nlp, hln, k⟩ := h
    have hr3 : Room 3 _ := hr.mono (by decide)
    have hr2 : Room 2 _ := hr.mono (by decide)
    have hr1 : Room 1 _ := hr.mono (by decide)
    have un := hr.un
    have hu := hr.units
    have nd := scLRight.nd
    have R : ∀ {X : Cx}, X.A = A.deeper (envOfC "_law_right" (defScope sLRight) s.heap.objs.size f cdv) → CallR X (.builtin "repr") (rReprD X.K) := fun {X} e => call_reprD (by rw [e]; exact guard) (by rw [e]; omega)
    refine ⟨_, PSs.nox (pss_cons (ps_set (i := 3) nd rfl (Or.inl rfl) (pe_ifExp (pt_cmpR (op_eqD hu) (pv 2) (pe_lst pa_nil) (nomark _)) pe_int pe_int))
      (pss_cons (ps_if (PW.pt (pw_or (pt_cmpR (op_neD hu) (pe_meth0 (pv 1) c mT GT hr1 bT .nil pass0) (pe_op op_timesS (pe_tup (pa_cons pe_int pa_nil)) (pv 3)) (nomark _)) (pw_or1 (pt_cmpR op_ne (pe_meth0 (pv 1) c mG GG hr1 bG .nil pass0) pe_int (nomark _))))) (pss_one (ps_ret pe_bl)) pss_nil)
      (pss_cons (ps_set (i := 4) nd rfl (Or.inl rfl) (pe_lst (pa_cons (pe_meth0 (pv 1) c mR GR hr1 bR .nil pass0) (pa_cons (pe_meth0 (pv 1) c mR GR hr1 bR .nil pass0) pa_nil))))
      (pss_cons (ps_set (i := 5) nd rfl (Or.inl rfl) (pe_lst (pa_cons (pe_lst pa_nil) (pa_cons (pe_lst pa_nil) pa_nil))))
      (pss_cons (ps_for PassesOwn.never rfl (pi_range1 rfl gRange (pa_cons (pe_op op_add pe_int (pe_call GW hr1 rfl gW kW bW .nil pass0 (pa_cons (pv 0) (pa_cons pe_int pa_nil)))) pa_nil)) (pg_name (i := 6) nd rfl (Or.inl rfl))
        (pss_cons (ps_set (i := 7) nd rfl (Or.inl rfl) (pe_call GW hr1 rfl gW kW bW .nil pass0 (pa_cons (pv 0) (pa_cons pe_int pa_nil))))
        (pss_cons (ps_setLc (i := 8) (own := [("_law_place", 10)]) (g := gName 10) (tt := tYes) rfl nd rfl rfl (sw_true rfl rfl rfl rfl) (pi_range1 rfl gRange (pa_cons (pv 3) pa_nil)) (blkOk_by (N := nRight) (sc := defScope sLRight) (by decide +kernel))
            (fun _ _ _ _ _ => pg_name (i := 10) nd rfl (Or.inl rfl)) (fun _ _ _ _ _ => pts_nil) (fun _ _ _ _ _ => pe_lst (pa_cons (pe_call GU hr2 rfl gU kU bU .nil pass0 (pa_cons (pv 0) pa_nil)) pa_nil)))
        (pss_cons (ps_expr (pe_bm PySem.F.plainAttrs_list PySem.F.slot_list_append PySem.F.type_list_append mt_append (pe_ix ix_list (pv 5) (pv 7) (fun _ _ => rfl)) (pa_cons
            (pe_lc (own := [("_law_row", 11)]) (g := gName 11) (tt := tYes) rfl nd (pi_list (pv 8)) (blkOk_by (N := nRight) (sc := defScope sLRight) (by decide +kernel))
              (fun _ _ _ _ _ => pg_name (i := 11) nd rfl (Or.inl rfl)) (fun _ _ _ _ _ => pts_nil) (fun _ _ _ _ _ => pe_callTy (call_list_ofK (K := K) rfl) (by rfl) gList PyProof.Rows.boot_list (pa_cons (pv 11) pa_nil))) pa_nil)))
        (pss_cons (ps_asg (pe_meth (pv 1) c mF GF hr3 bF .nil pass0 (pa_cons (pe_ix ix_list (pv 4) (pv 7) (fun _ _ => rfl)) (pa_cons (pv 8) pa_nil)))
            (pg_tup rfl (pgs_cons (pg_sub (pv 4) (pv 7) set_list (by intro _; rfl)) (pgs_cons (pg_name (i := 9) nd rfl (Or.inl rfl)) pgs_nil))))
        (pss_one (ps_if (PW.pt (pw_or (pt_cmpR op_ne (pe_callB (R rfl) (by rfl) gRepr boot_repr (pa_cons (pv 9) pa_nil)) (pe_callB (R rfl) (by rfl) gRepr boot_repr (pa_cons (pe_call GD hr2 rfl gD kD bD .nil pass0 (pa_cons (pv 2) (pa_cons (pe_ix ix_list (pv 5) (pv 7) (fun _ _ => rfl)) pa_nil))) pa_nil)) (nomark _))
            (pw_or1 (pt_cmpR (op_neD hu) (pv 8) (pe_ix ix_list (pe_ix ix_list (pv 5) (pv 7) (fun _ _ => rfl)) (pe_un un_neg pe_int) (fun _ _ => rfl)) (nomark _))))) (pss_one (ps_ret pe_bl)) pss_nil)))))))
      (pss_one (ps_ret pe_bl))))))), ?_⟩
    have mm := M.manyOf i H hn
    have m12 : M.many = 2 ∨ M.many = 1 := mm.elim (fun z => .inl z.2) (fun z => .inr z.2)
    -- how many places
    refine ⟨_, rfl, (by show 0 ≤ sizeLine; decide), fun z hz => ?_⟩
    have s1 := Same.new (o := .lst []) (Same.refl H) hz
    refine ⟨_, _, dp_at (s1 _ _ hln), dp_at (ns := []) upd_same, shaped_ints _, none_shaped, _, rfl, ?_⟩
    rw [show PyData.eqv (.list ((M.ns i).map PyData.int)) (.list (([] : List Int).map PyData.int)) = decide (M.ns i = []) from eqv_none _]
    generalize upd H z (.lst []) = H1 at s1
    refine ite_many (k := fun m => tC (V.int m) _ _ _) (m := (M.many : Int)) (fun e => ?_) (fun e => ?_) ?_
    · have e := of_decide_eq_true e
      rcases mm with ⟨_, z⟩ | ⟨z, _⟩
      · rw [z]
        rfl
      · exact absurd e z
    · have e := of_decide_eq_false e
      rcases mm with ⟨z, _⟩ | ⟨_, z⟩
      · exact absurd z e
      · rw [z]
        rfl
    obtain ⟨fs, ⟨dx, hi⟩, no⟩ := M.ins i H hn
    have noT := no "takes" (by decide +kernel)
    have noG := no "gives" (by decide +kernel)
    have noR := no "fresh" (by decide +kernel)
    have noF := no "fire" (by decide +kernel)
    have keepN : ∀ {H' : Hp}, Same H H' → M.node i H' := fun s => M.nodeKD i [] H _ (KD.same s) (fun d hd => (List.not_mem_nil hd).elim) (fun a _ => List.not_mem_nil) hn
    -- takes and gives
    refine ⟨_, rfl, _, dx, fs, rfl, s1 _ _ hi, noT, i, rfl, keepN s1, fun t H2 s2 ht => ?_⟩
    refine ⟨(by show 1 ≤ sizeLine; decide), fun t2 ht2 => ?_⟩
    have s3 := Same.new (o := .tup [V.int 1]) (Same.refl H2) ht2
    refine ⟨_, rfl, t2, M.many, _, rfl, rfl, .inl (.inl upd_same), by simp, by omega, by decide, fun q H3 s4 hq => ?_⟩
    rw [flat_ones] at hq
    have t3 : Same H H3 := ((s1.trans s2).trans s3).trans s4
    obtain ⟨o1, o2⟩ := ones_ok m12
    refine ⟨onesD M.many, onesD M.many, .tup (.inl (.inl (s4 _ _ (s3 _ _ ht)))) (dp_ones _), .tup hq (dp_ones _), o1, o1, ?_⟩
    rw [o2]
    refine ⟨_, rfl, iteF ?_⟩
    refine ⟨_, rfl, _, dx, fs, rfl, t3 _ _ hi, noG, i, rfl, keepN t3, rfl, _, rfl, iteNS rfl ?_⟩
    -- two memories, two lists of what was taken
    refine ⟨_, rfl, _, dx, fs, rfl, t3 _ _ hi, noR, i, rfl, keepN t3, fun m1 H4 s4 hm1 => ?_⟩
    have t4 := t3.trans s4
    refine ⟨_, rfl, _, dx, fs, rfl, t4 _ _ hi, noR, i, rfl, keepN t4, fun m2 H5 s5 hm2 => ?_⟩
    have t5 := t4.trans s5
    have memS : ∀ {h : List (List Int)} {v : V} {X Y : Hp}, Same X Y → M.mem i h X v → M.mem i h Y v := fun {h v X Y} s m => M.memKD i [] h X Y v (KD.same s) (fun d hd => (List.not_mem_nil hd).elim) m
    have hm1 := memS s5 hm1
    refine ⟨(by show 2 ≤ sizeLine; decide), fun ml hml => ⟨(by show 0 ≤ sizeLine; decide), fun ta hta => ⟨(by show 0 ≤ sizeLine; decide), fun tb htb => ⟨(by show 2 ≤ sizeLine; decide), fun tl htl => ?_⟩⟩⟩⟩
    have u6 := Same.new (o := .lst [m1, m2]) (Same.refl H5) hml
    have u7 := Same.new (o := .lst []) (Same.refl _) hta
    have u8 := Same.new (o := .lst []) (Same.refl _) htb
    have u9 := Same.new (o := .lst [V.ref ta, V.ref tb]) (Same.refl _) htl
    have g6 : (upd H5 ml (.lst [m1, m2])) ml = some (.lst [m1, m2]) := upd_same
    have g7 : (upd (upd H5 ml (.lst [m1, m2])) ta (.lst [])) ta = some (.lst []) := upd_same
    have g8 : (upd (upd (upd H5 ml (.lst [m1, m2])) ta (.lst [])) tb (.lst [])) tb = some (.lst []) := upd_same
    have g9 : (upd (upd (upd (upd H5 ml (.lst [m1, m2])) ta (.lst [])) tb (.lst [])) tl (.lst [V.ref ta, V.ref tb])) tl = some (.lst [V.ref ta, V.ref tb]) := upd_same
    generalize upd (upd (upd (upd H5 ml (.lst [m1, m2])) ta (.lst [])) tb (.lst [])) tl (.lst [V.ref ta, V.ref tb]) = H9 at u9 g9
    generalize upd (upd (upd H5 ml (.lst [m1, m2])) ta (.lst [])) tb (.lst []) = H8 at u9 u8 g8 htl
    generalize upd (upd H5 ml (.lst [m1, m2])) ta (.lst []) = H7 at u8 u7 g7 htb
    generalize upd H5 ml (.lst [m1, m2]) = H6 at u7 u6 g6 hta
    have t59 : Same H5 H9 := u6.trans (u7.trans (u8.trans u9))
    have t9 := t5.trans t59
    have u69 := u7.trans (u8.trans u9)
    have u79 := u8.trans u9
    have d1 : ml ≠ ta := ne_of_none g6 hta
    have d2 : ml ≠ tb := ne_of_none (u7 _ _ g6) htb
    have d3 : ta ≠ tb := ne_of_none g7 htb
    have d4 : ml ≠ tl := ne_of_none (u8 _ _ (u7 _ _ g6)) htl
    have d5 : ta ≠ tl := ne_of_none (u8 _ _ g7) htl
    have d6 : tb ≠ tl := ne_of_none g8 htl
    have old : ∀ {a : Addr} {o : HO}, H a = some o → a ≠ ml ∧ a ≠ ta ∧ a ≠ tb ∧ a ≠ tl := fun {a o} e => ⟨ne_of_none (t5 _ _ e) hml, ne_of_none (u6 _ _ (t5 _ _ e)) hta, ne_of_none (u7 _ _ (u6 _ _ (t5 _ _ e))) htb, ne_of_none (u8 _ _ (u7 _ _ (u6 _ _ (t5 _ _ e)))) htl⟩
    have fresh : H ml = none ∧ H ta = none ∧ H tb = none := ⟨t5.free hml, (t5.trans u6).free hta, ((t5.trans u6).trans u7).free htb⟩
    obtain ⟨pv1, pv2, _, _, _, hpp⟩ := id hp
    obtain ⟨q1, q2, q3, q4⟩ := old hpp
    obtain ⟨r1, r2, r3, r4⟩ := old hln
    have notD : ∀ {a : Addr}, a ≠ p → a ≠ ml → a ≠ ta → a ≠ tb → a ∉ p :: ml :: [ta, tb] := fun {a} z1 z2 z3 z4 z => by
      simp only [List.mem_cons, List.not_mem_nil, or_false] at z
      rcases z with z | z | z | z
      · exact z1 z
      · exact z2 z
      · exact z3 z
      · exact z4 z
    have A : Ap p ml tl ln [ta, tb] (M.objs i) := by
      refine ⟨q1.symm, fun t ht => ?_, fun t ht => ?_, fun m n t e1 e2 => ?_, notD q4.symm d4.symm d5.symm d6.symm, notD nlp r1 r2 r3, fun a ha => ?_⟩
      · simp only [List.mem_cons, List.not_mem_nil, or_false] at ht
        rcases ht with rfl | rfl
        · exact q2.symm
        · exact q3.symm
      · simp only [List.mem_cons, List.not_mem_nil, or_false] at ht
        rcases ht with rfl | rfl
        · exact d1.symm
        · exact d2.symm
      · match m, n, e1, e2 with
        | 0, 0, _, _ => rfl
        | 1, 1, _, _ => rfl
        | 0, 1, e1, e2 => exact absurd ((Option.some.inj e1).trans (Option.some.inj e2).symm) d3
        | 1, 0, e1, e2 => exact absurd ((Option.some.inj e2).trans (Option.some.inj e1).symm) d3
      · cases e : H a with
        | none => exact absurd e (M.alive i H hn a ha)
        | some o =>
          obtain ⟨z1, z2, z3, z4⟩ := old e
          exact notD (nop a ha) z1 z2 z3
    have L9 : Lv M i p ml tl ln [ta, tb] [[], []] [m1, m2] H9 := by
      refine ⟨hp.keep t9, u69 _ _ g6, g9, t9 _ _ hln, fun n t h e1 e2 => ?_, fun n e h e1 e2 => ?_, keepN t9, fun n h e2 => ?_, rfl, rfl⟩
      · match n, e1, e2 with
        | 0, e1, e2 =>
          cases e1
          cases e2
          exact ⟨[], u79 _ _ g7, trivial⟩
        | 1, e1, e2 =>
          cases e1
          cases e2
          exact ⟨[], u9 _ _ g8, trivial⟩
      · match n, e1, e2 with
        | 0, e1, e2 =>
          cases e1
          cases e2
          exact memS t59 hm1
        | 1, e1, e2 =>
          cases e1
          cases e2
          exact memS t59 hm2
      · match n, e2 with
        | 0, e2 =>
          cases e2
          exact ⟨fun r h => (List.not_mem_nil h).elim, fun r h => (List.not_mem_nil h).elim⟩
        | 1, e2 =>
          cases e2
          exact ⟨fun r h => (List.not_mem_nil h).elim, fun r h => (List.not_mem_nil h).elim⟩
    -- the firings
    refine ⟨_, rfl, p, 30, rfl, L9.pot, by decide, by decide, fun d0 G0 a0 a1 k0 hp0 => ?_⟩
    refine ⟨_, _, rfl, rfl, _, rfl, by omega, by omega, for_range (fun j σ G => ∃ (w6 w7 w8 w9 : Option V) (hs : List (List (List Int))) (es : List V), σ = [some (.ref p), some (.ref (M.nd i)), some (.ref ln), some (.int (M.many : Int)), some (.ref ml), some (.ref tl), w6, w7, w8, w9, none, none] ∧ Kept p H G ∧ Lv M i p ml tl ln [ta, tb] hs es G ∧ ∀ (n : Nat) (h : List (List Int)), hs[n]? = some h → h.length ≤ j)
      ⟨_, _, _, _, [[], []], [m1, m2], rfl, (Kept.same t9).trans k0, L9.kd A k0 hp0, fun n h e => ?_⟩ ?_ ?_⟩
    · match n, e with
      | 0, e =>
        cases e
        exact Nat.le_refl _
      | 1, e =>
        cases e
        exact Nat.le_refl _
    · rintro j σ G hj ⟨w6, w7, w8, w9, hs, es, rfl, kG, L, lh⟩
      have j30 : j < 30 := by omega
      refine ⟨_, rfl, p, 2, rfl, L.pot, by decide, by decide, fun d G1 e0 e1 k1 hp1 => ?_⟩
      have L1 := L.kd A k1 hp1
      have kG1 := kG.trans k1
      obtain ⟨n, rfl, n2⟩ : ∃ n : Nat, d = (n : Int) ∧ n < 2 := ⟨d.toNat, by omega, by omega⟩
      obtain ⟨t, et⟩ : ∃ t, [ta, tb][n]? = some t := ⟨_, List.getElem?_eq_getElem n2⟩
      obtain ⟨h, eh⟩ : ∃ h, hs[n]? = some h := ⟨_, List.getElem?_eq_getElem (by rw [L.l1]; exact n2)⟩
      obtain ⟨v, ev⟩ : ∃ v, es[n]? = some v := ⟨_, List.getElem?_eq_getElem (by rw [L.l2]; exact n2)⟩
      have hlen := lh n h eh
      -- the rows
      refine ⟨_, rfl, _, rfl, by omega, by omega, fun RD hRD => ?_⟩
      have ls1 := L1.lsts
      have nRD : RD ∉ p :: ml :: [ta, tb] := fun z => by
        obtain ⟨ys, hy⟩ := ls1 _ z
        rw [hRD] at hy
        cases hy
      have nRp : RD ≠ p := fun z => nRD (by rw [z]; exact List.mem_cons_self)
      refine lc_range (fun a H' => ∃ (rs : List Addr) (xs : List Int), xs.length = a ∧ H' RD = some (.lst (rs.map V.ref)) ∧ Al (fun r x => r ∉ RD :: (p :: ml :: [ta, tb]) ∧ H' r = some (.lst [.int x])) rs xs ∧ (∀ x ∈ xs, Num x) ∧ Kept p G1 H' ∧ PotAt H' p)
        ⟨[], [], rfl, upd_same, trivial, fun _ h => (List.not_mem_nil h).elim, Kept.past Kept.refl hRD, hp1.keep (Same.new (Same.refl _) hRD)⟩ (fun a H' ha e => ?_) (fun H' e => ?_)
      · obtain ⟨rs, xs, ex, hd, al, nx, kk, hpp'⟩ := e
        refine ⟨rfl, ?_⟩
        unfold tYes
        refine iteT ?_
        refine ⟨_, rfl, p, rfl, hpp', fun x H2' x0 x1 k2 hp2 => ⟨(by show 1 ≤ sizeLine; decide), fun r hr' => ?_⟩⟩
        have hd2 := k2 _ _ nRp hd
        have kk2 := kk.trans k2
        have rRD : r ≠ RD := (ne_of_none hd2 hr').symm
        have rD : r ∉ p :: ml :: [ta, tb] := fun z => by
          obtain ⟨ys, hy⟩ := ls1 _ z
          by_cases zp : r = p
          · obtain ⟨_, _, _, _, _, hx⟩ := hp2
            rw [zp, hx] at hr'
            cases hr'
          · rw [kk2 _ _ zp hy] at hr'
            cases hr'
        refine ⟨_, by rw [upd_ne rRD.symm]; exact hd2, ?_, rs ++ [r], xs ++ [x], by rw [List.length_append, ex]; rfl, ?_, ?_, fun y hy => ?_, (kk2.new hr').past hRD, ?_⟩
        · rw [List.length_map, al.len, ex]
          exact Nat.lt_of_lt_of_le (show a < 3 by omega) (by decide)
        · rw [List.map_append]
          exact upd_same
        · refine Al.snoc ⟨fun z => ?_, ?_⟩ (al.imp fun r' x' ⟨z1, z2⟩ => ⟨z1, ?_⟩)
          · rcases List.mem_cons.mp z with z | z
            · exact rRD z
            · exact rD z
          · rw [upd_ne rRD]
            exact upd_same
          · have n1 : r' ≠ RD := fun z => z1 (by rw [z]; exact List.mem_cons_self)
            have n2 : r' ≠ p := fun z => z1 (by rw [z]; exact List.mem_cons_of_mem _ List.mem_cons_self)
            have z3 := k2 _ _ n2 z2
            rw [upd_ne n1, upd_ne (ne_of_none z3 hr')]
            exact z3
        · rcases List.mem_append.mp hy with hy | hy
          · exact nx y hy
          · rcases List.mem_cons.mp hy with rfl | hy
            · exact ⟨x0, x1⟩
            · cases hy
        · obtain ⟨b1, b2, b3, b4, b5, b6⟩ := hp2
          refine ⟨b1, b2, b3, b4, b5, ?_⟩
          rw [upd_ne nRp.symm, upd_ne (ne_of_none b6 hr')]
          exact b6
      · obtain ⟨rs, xs, ex, hd, al, nx, kk, hpp'⟩ := e
        rw [Int.toNat_natCast] at ex
        have L2 := L1.kd A kk hpp'
        have kG2 := kG1.trans kk
        have rowR : RowAt (p :: ml :: [ta, tb]) H' RD xs := ⟨nRD, rs, hd, al.imp fun r x ⟨z1, z2⟩ => ⟨fun z => z1 (List.mem_cons_of_mem _ z), z2⟩⟩
        obtain ⟨qs, hqs, alq⟩ := L2.his n t h et eh
        -- put behind
        have ets : ([ta, tb].map V.ref)[n]? = some (V.ref t) := by rw [List.getElem?_map, et]; rfl
        refine ⟨_, rfl, _, rfl, tl, _, _, _, rfl, rfl, SqL.of L2.ht, atI_nat (j := n) ets, .inl ⟨rfl, _, SqL.of hqs⟩, ?_⟩
        refine ⟨_, rfl, RD, rfl, ⟨_, SqL.of hd⟩, fun EL hEL => ?_⟩
        refine lc_list (fun a G' => ∃ rs2 : List Addr, G' EL = some (.lst (rs2.map V.ref)) ∧ Al (fun r x => r ∉ EL :: (p :: ml :: [ta, tb]) ∧ G' r = some (.lst [.int x])) rs2 (xs.take a) ∧ Same H' G')
          ⟨[], upd_same, by rw [List.take_zero]; trivial, Same.past (Same.refl _) hEL⟩ (fun a G' _ e => by obtain ⟨_, _, _, sm⟩ := e; exact SqL.of (sm _ _ hd)) (fun a y G' ey e => ?_) (fun G' e => ?_)
        · obtain ⟨rs2, hE, al2, sm⟩ := e
          rw [List.getElem?_map] at ey
          obtain ⟨r, er, rfl⟩ := Option.map_eq_some_iff.mp ey
          obtain ⟨x, exx, rx⟩ := al.get er
          refine ⟨rfl, ?_⟩
          unfold tYes
          refine iteT ?_
          refine ⟨_, rfl, r, _, rfl, .inl (SqL.of (sm _ _ rx.2)), fun q hq' => ?_⟩
          have qE : q ≠ EL := (ne_of_none hE hq').symm
          have qD : q ∉ p :: ml :: [ta, tb] := fun z => by
            obtain ⟨ys, hy⟩ := L2.lsts _ z
            rw [sm _ _ hy] at hq'
            cases hq'
          refine ⟨_, by rw [upd_ne qE.symm]; exact hE, ?_, rs2 ++ [q], ?_, ?_, Same.past (Same.new sm hq') hEL⟩
          · rw [List.length_map, al2.len, List.length_take]
            exact Nat.lt_of_le_of_lt (show _ ≤ 2 by omega) (by decide)
          · rw [List.map_append]
            exact upd_same
          · have tk : xs.take (a + 1) = xs.take a ++ [x] := by
              rw [List.take_succ, exx]
              rfl
            rw [tk]
            refine Al.snoc ⟨fun z => ?_, ?_⟩ (al2.imp fun r' x' ⟨z1, z2⟩ => ⟨z1, ?_⟩)
            · rcases List.mem_cons.mp z with z | z
              · exact qE z
              · exact qD z
            · rw [upd_ne qE]
              exact upd_same
            · have n1 : r' ≠ EL := fun z => z1 (by rw [z]; exact List.mem_cons_self)
              rw [upd_ne n1, upd_ne (ne_of_none z2 hq')]
              exact z2
        · obtain ⟨rs2, hE, al2, sm⟩ := e
          rw [List.length_map, al.len, List.take_length] at al2
          have L3 := L2.same A sm
          have nED : EL ∉ p :: ml :: [ta, tb] := fun z => by
            obtain ⟨ys, hy⟩ := L2.lsts _ z
            rw [hEL] at hy
            cases hy
          have rowE : RowAt (p :: ml :: [ta, tb]) G' EL xs := ⟨nED, rs2, hE, al2.imp fun r x ⟨z1, z2⟩ => ⟨fun z => z1 (List.mem_cons_of_mem _ z), z2⟩⟩
          have rowR3 := rowR.same sm
          have hqs3 := sm _ _ hqs
          have mT : t ∈ [ta, tb] := List.mem_of_getElem? et
          have mD : t ∈ p :: ml :: [ta, tb] := List.mem_cons_of_mem _ (List.mem_cons_of_mem _ mT)
          refine ⟨t, _, _, rfl, rfl, hqs3, ?_, ?_⟩
          · rw [List.length_map, alq.len]
            exact Nat.lt_of_le_of_lt (show _ ≤ 30 by omega) (by decide)
          have kB : KD (p :: ml :: [ta, tb]) G' (upd G' t (.lst (qs.map V.ref ++ [V.ref EL]))) := KD.upd mD
          have nB := M.nodeKD i _ _ _ kB L3.lsts A.os L3.nd
          have mB := M.memKD i _ h _ _ v kB L3.lsts (L3.mem n v h ev eh)
          have rB := (rowR3.keep kB).weak
          have hmB : (upd G' t (.lst (qs.map V.ref ++ [V.ref EL]))) ml = some (.lst es) := by
            rw [upd_ne (A.mt t mT).symm]
            exact L3.hm
          obtain ⟨fs3, ⟨dx3, hi3⟩, no3⟩ := M.ins i _ nB
          refine ⟨_, rfl, _, dx3, fs3, rfl, hi3, no3 "fire" (by decide +kernel), _, rfl, _, rfl, ml, _, _, _, rfl, rfl, SqL.of hmB, atI_nat (j := n) ev, _, rfl, ?_⟩
          obtain ⟨numh, wdh⟩ := L3.num n h eh
          refine ⟨i, h, xs, v, RD, rfl, nB, mB, rB, ex, nx, numh, fun tt l v2 B2 sB hB hm2' hl => ?_⟩
          have L4 := L3.next A et eh hqs3 rowE ex nx sB hm2'
          have hm2B := sB _ _ hmB
          have l2 : es.length = 2 := L3.l2
          have exn : ixN es.length (n : Int) = some n := by
            rw [l2]
            unfold ixN
            simp
            omega
          refine ⟨tt, _, rfl, .inl (.inl hB), rfl, _, _, rfl, ?_⟩
          refine ⟨_, rfl, _, rfl, ml, _, _, n, rfl, rfl, hm2B, exn, ?_⟩
          refine ⟨_, _, rfl, rfl, ?_⟩
          have kC : KD (p :: ml :: [ta, tb]) B2 (upd B2 ml (.lst (es.set n v2))) := KD.upd (List.mem_cons_of_mem _ List.mem_cons_self)
          have nlml : l ≠ ml := fun z => by
            rw [z, hm2B] at hl
            have e := HO.lst.inj (Option.some.inj hl)
            rw [e] at l2
            cases l2
          have hl3 : (upd B2 ml (.lst (es.set n v2))) l = some (.lst [.int (due (M.ns i) (h ++ [xs]))]) := by
            rw [upd_ne nlml]
            exact hl
          have kH3 : Kept p H (upd B2 ml (.lst (es.set n v2))) := by
            have y1 : Kept p H (upd G' t (.lst (qs.map V.ref ++ [V.ref EL]))) := (kG2.trans (Kept.same sm)).past (by
              simp only [List.mem_cons, List.not_mem_nil, or_false] at mT
              rcases mT with rfl | rfl
              · exact fresh.2.1
              · exact fresh.2.2)
            exact (y1.trans (Kept.same sB)).past fresh.1
          have rowR4 : RowAt (p :: ml :: [ta, tb]) (upd B2 ml (.lst (es.set n v2))) RD xs := ((rowR3.keep kB).same sB).keep kC
          have rowE4 : RowAt (p :: ml :: [ta, tb]) (upd B2 ml (.lst (es.set n v2))) EL xs := ((rowE.keep kB).same sB).keep kC
          have ht4 : (upd B2 ml (.lst (es.set n v2))) t = some (.lst (qs.map V.ref ++ [V.ref EL])) := by
            rw [upd_ne (A.mt t mT)]
            exact sB _ _ upd_same
          generalize upd B2 ml (.lst (es.set n v2)) = B3 at L4 hl3 kH3 rowR4 rowE4 ht4
          have eh2 : (hs.set n (h ++ [xs]))[n]? = some (h ++ [xs]) := List.getElem?_set_self (by rw [L3.l1]; exact n2)
          obtain ⟨num4, wd4⟩ := L4.num n _ eh2
          obtain ⟨sm1, sm2⟩ := M.small i H hn
          have dl := due_small sm1 sm2 num4
          obtain ⟨S, hS⟩ : ∃ S, (PyData.list [.int (due (M.ns i) (h ++ [xs]))]).shown = S := ⟨_, rfl⟩
          refine ⟨_, rfl, l, _, S, rfl, one_dp hl3, oneD_shaped _, oneD_show dl, oneD_len dl, hS, ?_⟩
          refine ⟨_, rfl, _, rfl, _, rfl, tl, _, _, _, rfl, rfl, SqL.of L4.ht, atI_nat (j := n) ets, ?_⟩
          refine ⟨ln, t, M.ns i, h ++ [xs], rfl, L4.hn, (L4.his n t _ et eh2).weak, fun z => ?_, fun z => ?_, num4, sm1, sm2, ?_, fun g B4 s4' hg => ?_⟩
          · rcases mm with ⟨_, e⟩ | ⟨e, _⟩
            · rw [e] at wd4
              exact wd4
            · exact absurd z e
          · rcases mm with ⟨e, _⟩ | ⟨_, e⟩
            · exact absurd e z
            · rw [e] at wd4
              exact wd4
          · rw [List.length_append]
            show h.length + 1 ≤ 60
            omega
          refine ⟨g, _, S, rfl, one_dp hg, oneD_shaped _, oneD_show dl, oneD_len dl, hS, rfl, _, rfl, iteNS rfl ?_⟩
          refine ⟨_, rfl, _, rfl, _, rfl, tl, _, _, _, rfl, rfl, SqL.of (s4' _ _ L4.ht), atI_nat (j := n) ets, _, rfl, t, _, _, _, rfl, rfl, SqL.of (s4' _ _ ht4), atI_last _ _, ?_⟩
          refine ⟨rowD xs, rowD xs, dp_row (rowR4.same s4'), dp_row (rowE4.same s4'), row_shaped _, row_shaped _, ?_⟩
          rw [row_eqv]
          refine ⟨_, rfl, iteF ?_⟩
          refine ⟨_, _, _, _, hs.set n (h ++ [xs]), es.set n v2, rfl, kH3.trans (Kept.same s4'), L4.same A s4', fun m h' e => ?_⟩
          by_cases z : m = n
          · subst z
            rw [eh2] at e
            cases e
            rw [List.length_append]
            show h.length + 1 ≤ j + 1
            omega
          · rw [List.getElem?_set_ne (Ne.symm z)] at e
            exact Nat.le_succ_of_le (lh m h' e)
    · rintro σ G ⟨w6, w7, w8, w9, hs, es, rfl, kG, L, _⟩
      exact k G kG L.pot
end
end Sw
namespace Sw
open PySem PySem.Spec PyProof.Rows L2
def spLaw (K : PySem.W.Frag) : Sp := fun vs H Q _ => ∃ (a : Addr) (ns : List Int), vs = [.ref a] ∧ SqL K H a (ns.map V.int) ∧ ns.length ≤ 63 ∧ ∀ H', Q (.bl true) H'
section
variable {P : Program} {w : World} {K : PySem.W.Frag} {mg : Str → Option Value} {base : Heap} {f f1 f2 f3 f4 f5 f6 f7 C CN CT CL : Addr} {fd fd1 fd2 fd3 fd4 fd5 fd6 fd7 : FuncData}
theorem scLaw : FnScope ["_law_script", "_law_k", "_law_pot_here", "_law_numbers_here"] ["_law_script"] (defScope sLaw) := ⟨rfl, rfl, rfl, by decide +kernel, rfl, by decide +kernel, by decide +kernel⟩
theorem ok_law (F : FnP K "law" sLaw f fd)
    (GCe : FnOk P w K mg base CX0 1 f1 fd1 ["_law_script", "_law_k"] (spCell K)) (gCe : mg "_law_cell" = some (.ref f1)) (kCe : PySem.W.keepIn K (.ref f1) = true) (bCe : Binds K fd1 ["_law_script", "_law_k"] [])
    (GPo : FnOk P w K mg base CX0 1 f2 fd2 ["_law_cell_here"] spPot) (gPo : mg "_law_pot" = some (.ref f2)) (kPo : PySem.W.keepIn K (.ref f2) = true) (bPo : Binds K fd2 ["_law_cell_here"] [])
    (GDr : FnOk P w K mg base CX0 1 f3 fd3 ["_law_pot_here", "_law_many"] spDraw) (gDr : mg "_law_draw" = some (.ref f3)) (kDr : PySem.W.keepIn K (.ref f3) = true) (bDr : Binds K fd3 ["_law_pot_here", "_law_many"] [])
    (GNs : FnOk P w K mg base CX0 3 f4 fd4 ["_law_pot_here", "_law_most"] spNumbers) (gNs : mg "_law_numbers" = some (.ref f4)) (kNs : PySem.W.keepIn K (.ref f4) = true) (bNs : Binds K fd4 ["_law_pot_here", "_law_most"] [])
    (GMa : FnOk P w K mg base CX0 6 f5 fd5 ["_law_numbers_here"] (spMade K CT CL)) (gMa : mg "_law_made" = some (.ref f5)) (kMa : PySem.W.keepIn K (.ref f5) = true) (bMa : Binds K fd5 ["_law_numbers_here"] [])
    (GRi : FnG P w K mg base CX0 6 f6 fd6 ["_law_pot_here", "_law_node", "_law_numbers_here"] (fun vs H Q E => spMRight (tapsM K CT) vs H Q E ∨ spMRight (latchM K CL) vs H Q E)) (gRi : mg "_law_right" = some (.ref f6)) (kRi : PySem.W.keepIn K (.ref f6) = true) (bRi : Binds K fd6 ["_law_pot_here", "_law_node", "_law_numbers_here"] [])
    (gRange : mg "range" = none) (gMax : mg "max" = none) (gMin : mg "min" = none) (gLen : mg "len" = none) : FnG P w K mg base CX0 8 f fd ["_law_script"] (spLaw K) := by
  refine F.okG scLaw (fun vs H Q E h => ?_) (fun cdv A outer s H vs Q E hr guard h => ?_)
  · obtain ⟨a, ns, rfl, _⟩ := h
    rfl
  · obtain ⟨a, ns, rfl, hS, hlen, kk⟩ := h
    have hr6 : Room 6 _ := hr.mono (by decide)
    have hr3 : Room 3 _ := hr.mono (by decide)
    have hr1 : Room 1 _ := hr.mono (by decide)
    have nd := scLaw.nd
    refine ⟨_, PSs.nox (pss_cons (ps_for PassesOwn.never rfl (pi_range1 rfl gRange (pa_cons (pe_callB (call_max2 rfl) (by rfl) gMax (by decide +kernel) (pa_cons pe_int (pa_cons (pe_callB (call_min2 rfl) (by rfl) gMin (by decide +kernel)
          (pa_cons (pe_callB call_len_seq (by rfl) gLen PySem.boot_len (pa_cons (pv 0) pa_nil)) (pa_cons pe_int pa_nil))) pa_nil))) pa_nil)) (pg_name (i := 1) nd rfl (Or.inl rfl))
        (pss_cons (ps_set (i := 2) nd rfl (Or.inl rfl) (pe_call GPo hr1 rfl gPo kPo bPo .nil pass0 (pa_cons (pe_call GCe hr1 rfl gCe kCe bCe .nil pass0 (pa_cons (pv 0) (pa_cons (pv 1) pa_nil))) pa_nil)))
        (pss_cons (ps_set (i := 3) nd rfl (Or.inl rfl) (pe_lst pa_nil))
        (C8.pss_cut (ps_if (pt_cmpR op_gt (pe_call GDr hr1 rfl gDr kDr bDr .nil pass0 (pa_cons (pv 2) (pa_cons pe_int pa_nil))) pe_int (nomark _)) (pss_one (ps_set (i := 3) nd rfl (Or.inl rfl) (pe_call GNs hr3 rfl gNs kNs bNs .nil pass0 (pa_cons (pv 2) (pa_cons pe_int pa_nil))))) pss_nil)
        (pss_one (ps_if (pt_not (pt_val (pe_callG GRi hr6 guard rfl gRi kRi bRi .nil pass0 (pa_cons (pv 2) (pa_cons (pe_call GMa hr6 rfl gMa kMa bMa .nil pass0 (pa_cons (pv 3) pa_nil)) (pa_cons (pv 3) pa_nil)))))) (pss_one (ps_ret pe_bl)) pss_nil))))))
      (pss_one (ps_ret pe_bl))), ?_⟩
    refine ⟨_, rfl, a, _, rfl, .inl hS, _, _, rfl, _, _, rfl, _, rfl, ?_, ?_, for_range (fun i σ H' => ∃ (vs : List (Option V)), σ = some (.ref a) :: vs ∧ vs.length = 3 ∧ Same H H') ⟨_, rfl, rfl, Same.refl _⟩ ?_ ?_⟩
    · rw [List.length_map]
      split <;> split <;> omega
    · rw [List.length_map]
      split <;> split <;> omega
    · rintro i σ H1 hi ⟨vs, rfl, hvs, s1⟩
      obtain ⟨u1, u2, u3, rfl⟩ : ∃ u1 u2 u3, vs = [u1, u2, u3] := by
        match vs, hvs with
        | [u1, u2, u3], _ => exact ⟨_, _, _, rfl⟩
      refine ⟨_, rfl, _, rfl, a, ns, i, ?_, s1.seq hS, fun z => ?_⟩
      · rw [Int.zero_add]
        rfl
      refine ⟨z, rfl, fun p H2 np s2 hp => ?_⟩
      have p0 : H p = none := s1.free np
      have t2 := s1.trans s2
      refine ⟨(by show 0 ≤ sizeLine; decide), fun l hl => ?_⟩
      have sl := Same.new (o := .lst []) (Same.refl H2) hl
      have hp2 : PotAt (upd H2 l (.lst [])) p := hp.keep sl
      have nlp : l ≠ p := fun z => by
        obtain ⟨_, _, _, _, _, hx⟩ := hp
        rw [z, hx] at hl
        cases hl
      refine ⟨fun σ' H' => ∃ (ln : Addr) (ms : List Int) (v1 : Option V), σ' = [some (.ref a), v1, some (.ref p), some (.ref ln)] ∧ H' ln = some (.lst (ms.map V.int)) ∧ ln ≠ p ∧ (∀ n ∈ ms, Num n) ∧ ms.length ≤ 12 ∧ PotAt H' p ∧ Same H H', ?_, ?_⟩
      · refine ⟨_, rfl, p, 3, rfl, hp2, by decide, by decide, fun d H3 d0 d1 k3 hp3 => ?_⟩
        have t3 := Same.kept (t2.trans sl) p0 k3
        refine ⟨_, _, rfl, rfl, _, rfl, ?_⟩
        refine ite2 (fun h => ?_) (fun h => ?_)
        · refine ⟨_, rfl, p, 12, rfl, hp3, by decide, by decide, fun ln ms H4 k4 hp4 nln hln m1 m2 hms => ?_⟩
          refine ⟨ln, ms, _, rfl, hln, fun z => ?_, hms, by omega, hp4, Same.kept t3 p0 k4⟩
          obtain ⟨_, _, _, _, _, hx⟩ := hp3
          rw [z, hx] at nln
          cases nln
        · exact ⟨l, [], _, rfl, k3 _ _ nlp upd_same, nlp, fun _ h => (List.not_mem_nil h).elim, by decide, hp3, t3⟩
      · rintro σ' H3 ⟨ln, ms, v1, rfl, hln, nlp, hms, m12, hp3, t3⟩
        refine ⟨_, rfl, _, rfl, ln, ms, rfl, hln, hms, m12, fun nv H4 s4 md => ?_⟩
        have hp4 := hp3.keep s4
        have t4 := t3.trans s4
        refine ⟨_, rfl, ?_⟩
        rcases md with ⟨e, j, rfl, hj⟩ | ⟨e, j, rfl, hj, en, fr⟩
        · refine .inr ⟨j, p, ln, rfl, hp4, hj, fun a ha => (List.not_mem_nil ha).elim, nlp, ?_, fun H5 k5 hp5 => ⟨_, rfl, iteF ?_⟩⟩
          · show H4 ln = some (.lst [])
            rw [e] at hln
            exact s4 _ _ hln
          · exact ⟨_, rfl, rfl, Same.kept t4 p0 k5⟩
        · refine .inl ⟨j, p, ln, rfl, hp4, hj, fun a ha => ?_, nlp, ?_, fun H5 k5 hp5 => ⟨_, rfl, iteF ?_⟩⟩
          · have ha' : a ∈ [TI.ln j] := ha
            rcases List.mem_cons.mp ha' with rfl | ha'
            · intro z
              obtain ⟨_, _, _, _, _, hx⟩ := hp3
              rw [z, hx] at fr
              cases fr
            · cases ha'
          · show H4 ln = some (.lst ((TI.ns j).map V.int))
            rw [en]
            exact s4 _ _ hln
          · exact ⟨_, rfl, rfl, Same.kept t4 p0 k5⟩
    · rintro σ H1 ⟨vs, rfl, hvs, s1⟩
      exact kk H1
end
end Sw
namespace Sw
open PySem PySem.Spec PyProof.Rows L2
/-! ### the head: facts by names -/
/-- as hookD, with one test more of the written part -/
def obsX (fa : List He.Fa) (fn : List He.DefD) (ex : PySem.W.Frag → Bool) (K : PySem.W.Frag) : Bool × He.AlD := (ex K, He.obsD fa fn K)
def obsXG (n : Nat) (fa : List He.Fa) (fn : List He.DefD) (ex : PySem.W.Frag → Bool) (g : Addr → Option Obj) : Bool × He.AlD := obsX fa fn ex (He.frG g (cStatics :: He.asD g n))
def hookX (n : Nat) (fa : List He.Fa) (fn : List He.DefD) (ex : PySem.W.Frag → Bool) : PySem.W.Hook where
  α := Bool × He.AlD
  obs := fun s => obsXG n fa fn ex s.heap.get?
  val := fun _ => (true, He.valD fn)
  says := fun _ h => ∃ K : PySem.W.Frag, K.In h ∧ ex K = true ∧ He.SaysD fa fn K
  of := fun _ _ e => ⟨_, He.frG_in, congrArg (fun z : Bool × He.AlD => z.1) e, congrArg (fun z : Bool × He.AlD => z.2) e⟩
  keeps := fun _ _ _ ⟨K, hK, c⟩ k => ⟨K, PySem.W.Frag.In.keeps hK k, c⟩
theorem obsXG_eq {n : Nat} {fa : List He.Fa} {fn : List He.DefD} {ex : PySem.W.Frag → Bool} {g : Addr → Option Obj} {s : Shared} (h : ∀ a, g a = s.heap.get? a) : obsXG n fa fn ex g = (hookX n fa fn ex).obs s := by
  have e : g = s.heap.get? := funext h
  rw [e] <;> rfl
def kitF (K : PySem.W.Frag) (t u : Value) (b : Bool) : Bool := decide (PySem.W.kitOne K t u = some b)
def dfn (x : Str) (st : Stmt) : He.DefD := ⟨(x, none), x, x, defArgs st, defBody st, defScope st, [], []⟩
def baseB (K : PySem.W.Frag) (C f : Addr) (m : Str) : Bool := PySem.W.readsIn K C (.type "type") && (decide (PySem.W.specialIn K (.ref C) "__getattribute__" = some (some (.builtin "type.__getattribute__"))) &&
  ((match PySem.W.findCls K (.ref C) (.type "type") m with
    | some (.val (.ref g)) => decide (g = f)
    | _ => false) && PySem.W.keepIn K (.ref f)))
theorem baseB_ok {K : PySem.W.Frag} {C f : Addr} {m : Str} (h : baseB K C f m = true) : BaseM K C m f := by
  obtain ⟨h1, h⟩ := He.ba h
  obtain ⟨h2, h⟩ := He.ba h
  obtain ⟨h3, h4⟩ := He.ba h
  refine ⟨h1, of_decide_eq_true h2, ?_, h4⟩
  cases e : PySem.W.findCls K (.ref C) (.type "type") m with
  | none =>
    rw [e] at h3
    cases h3
  | some r =>
    rw [e] at h3
    cases r with
    | val v =>
      cases v with
      | ref g => rw [of_decide_eq_true (show decide (g = f) = true from h3)]
      | _ => cases h3
    | get _ _ _ _ => cases h3
def fn : List He.DefD := [dfn "is_whole" sWhole, dfn "is_whole_within" sWithin, dfn "are_wholes" sWholes, dfn "is_list_of_wholes" sListOf, dfn "need" sNeed, dfn "run_firing" sFiring, dfn "_law_cell" sCell, dfn "_law_pot" sPot, dfn "_law_draw" sDraw, dfn "_law_number" sNumber, dfn "_law_numbers" sNumbers, dfn "_law_tapped" sTapped, dfn "_law_latched" sLatched, dfn "_law_given" sGiven, dfn "_law_made" sMade, dfn "_law_right" sLRight, dfn "law" sLaw, (⟨("Node", some "__init__"), "__init__", "Node.__init__", defArgs sNodeInit, defBody sNodeInit, defScope sNodeInit, [], []⟩ : He.DefD), (⟨("Taps", some "__init__"), "__init__", "Taps.__init__", defArgs sTapsInit, defBody sTapsInit, defScope sTapsInit, [], [("late", .int 0), ("begin", .int 0)]⟩ : He.DefD), (⟨("Taps", some "takes"), "takes", "Taps.takes", defArgs sTapsTakes, defBody sTapsTakes, defScope sTapsTakes, [], []⟩ : He.DefD), (⟨("Taps", some "gives"), "gives", "Taps.gives", defArgs sTapsGives, defBody sTapsGives, defScope sTapsGives, [], []⟩ : He.DefD), (⟨("Taps", some "fresh"), "fresh", "Taps.fresh", defArgs sTapsFresh, defBody sTapsFresh, defScope sTapsFresh, [], []⟩ : He.DefD), (⟨("Taps", some "fire"), "fire", "Taps.fire", defArgs sTapsFire, defBody sTapsFire, defScope sTapsFire, [], []⟩ : He.DefD), (⟨("Taps", some "work"), "work", "Taps.work", defArgs sTapsWork, defBody sTapsWork, defScope sTapsWork, [], []⟩ : He.DefD), (⟨("Latch", some "__init__"), "__init__", "Latch.__init__", defArgs sLatchInit, defBody sLatchInit, defScope sLatchInit, [], [("late", .int 0), ("begin", .int 0)]⟩ : He.DefD), (⟨("Latch", some "takes"), "takes", "Latch.takes", defArgs sLatchTakes, defBody sLatchTakes, defScope sLatchTakes, [], []⟩ : He.DefD), (⟨("Latch", some "gives"), "gives", "Latch.gives", defArgs sLatchGives, defBody sLatchGives, defScope sLatchGives, [], []⟩ : He.DefD), (⟨("Latch", some "fresh"), "fresh", "Latch.fresh", defArgs sLatchFresh, defBody sLatchFresh, defScope sLatchFresh, [], []⟩ : He.DefD), (⟨("Latch", some "fire"), "fire", "Latch.fire", defArgs sLatchFire, defBody sLatchFire, defScope sLatchFire, [], []⟩ : He.DefD), (⟨("Latch", some "work"), "work", "Latch.work", defArgs sLatchWork, defBody sLatchWork, defScope sLatchWork, [], []⟩ : He.DefD)]
def fa : List He.Fa := [.glo "is_whole", .glo "is_whole_within", .glo "are_wholes", .glo "is_list_of_wholes", .glo "need", .glo "run_firing", .glo "_law_cell", .glo "_law_pot", .glo "_law_draw", .glo "_law_number", .glo "_law_numbers", .glo "_law_tapped", .glo "_law_latched", .glo "_law_given", .glo "_law_made", .glo "_law_right", .glo "law", .free "len", .free "max", .free "min", .free "range", .free "isinstance", .free "int", .free "bool", .free "list", .free "repr", .free "all", .free "sum", .free "zip", .int "MOST_LATE" 99, .int "MOST_BEGIN" 9999, .int "MOST_TAPS" 12, .glo "Node", .glo "Taps", .glo "Latch", .cls "Taps", .noat "Taps" "made", .noat "Taps" "late_by", .noat "Taps" "begin_at", .noat "Taps" "numbers", .mkr "Taps", .meth "Taps" "takes", .meth "Taps" "gives", .meth "Taps" "fresh", .meth "Taps" "fire", .meth "Taps" "work", .cls "Latch", .noat "Latch" "made", .noat "Latch" "late_by", .noat "Latch" "begin_at", .mkr "Latch", .meth "Latch" "takes", .meth "Latch" "gives", .meth "Latch" "fresh", .meth "Latch" "fire", .meth "Latch" "work"]
def ex (K : PySem.W.Frag) : Bool := baseB K (He.ga K "Node") (He.ma K (He.ga K "Node") "__init__") "__init__"
abbrev R : PySem.W.OpenRow := PySem.W.OpenLaw.row PySem.Challenge.rw_sampleweave_k14_taps_and_latches
abbrev hk : PySem.W.Hook := hookX 5 fa fn ex
def ob (s : PySem.W.SharedT) : Bool × He.AlD := obsXG 5 fa fn ex (HandSHeadRun.getT s)
theorem ob_eq (s : PySem.W.SharedT) : ob s = hk.obs s.abs := obsXG_eq (HandSHeadRun.getT_eq s)
def loose : List Str := ["_wall", "WeaveError", "NoNode", "is_whole", "is_whole_within", "are_wholes", "is_list_of_wholes", "need", "run_firing", "MOST_LATE", "MOST_BEGIN", "Node", "MOST_TAPS", "Taps", "Latch", "_law_cell", "_law_pot", "_law_draw", "_law_number", "_law_numbers", "_law_tapped", "_law_latched", "_law_given", "_law_made", "_law_right"]
theorem run (w : World) : HandSHeadRun.RunEq R (PySem.W.view R.prog [31]) hk ob 9000 loose w := by
  intro os
  kernel_rfl
theorem facts {P : Program} {w : World} {K : PySem.W.Frag} {h : Heap} {mg : Str → Option Value} {f : Addr} (X : K.In h) (G : h.Ns mainGlobals mg) (hfa : mg ("law" : Str) = some (.ref f)) (cx : ex K = true) (c : He.SaysD fa fn K) :
    ∃ fd : FuncData, (∀ (s : Shared) (v : Value), BindsTo s fd ⟨[v], []⟩ [("_law_script", v)]) ∧ ∀ base : Heap, K.In base → base.Ns mainGlobals mg → FnG P w K mg base CX0 8 f fd ["_law_script"] (spLaw K) := by
  unfold ex at cx
  obtain ⟨d_is_whole, F_is_whole⟩ := c.def_ 0 (d := dfn "is_whole" sWhole) rfl
  have g_is_whole := He.glo_ok X G (c.fact 0 (f := .glo "is_whole") rfl)
  have b_is_whole : Binds K d_is_whole ["thing"] [] := FunD.bindsN F_is_whole fun _ _ _ _ _ _ us hl => match us, hl with | [_], _ => rfl
  obtain ⟨d_is_whole_within, F_is_whole_within⟩ := c.def_ 1 (d := dfn "is_whole_within" sWithin) rfl
  have g_is_whole_within := He.glo_ok X G (c.fact 1 (f := .glo "is_whole_within") rfl)
  have b_is_whole_within : Binds K d_is_whole_within ["thing", "least", "most"] [] := FunD.bindsN F_is_whole_within fun _ _ _ _ _ _ us hl => match us, hl with | [_, _, _], _ => rfl
  obtain ⟨d_are_wholes, F_are_wholes⟩ := c.def_ 2 (d := dfn "are_wholes" sWholes) rfl
  have g_are_wholes := He.glo_ok X G (c.fact 2 (f := .glo "are_wholes") rfl)
  have b_are_wholes : Binds K d_are_wholes ["things"] [] := FunD.bindsN F_are_wholes fun _ _ _ _ _ _ us hl => match us, hl with | [_], _ => rfl
  obtain ⟨d_is_list_of_wholes, F_is_list_of_wholes⟩ := c.def_ 3 (d := dfn "is_list_of_wholes" sListOf) rfl
  have g_is_list_of_wholes := He.glo_ok X G (c.fact 3 (f := .glo "is_list_of_wholes") rfl)
  have b_is_list_of_wholes : Binds K d_is_list_of_wholes ["thing", "least", "most"] [] := FunD.bindsN F_is_list_of_wholes fun _ _ _ _ _ _ us hl => match us, hl with | [_, _, _], _ => rfl
  obtain ⟨d_need, F_need⟩ := c.def_ 4 (d := dfn "need" sNeed) rfl
  have g_need := He.glo_ok X G (c.fact 4 (f := .glo "need") rfl)
  have b_need : Binds K d_need ["holds", "field"] [] := FunD.bindsN F_need fun _ _ _ _ _ _ us hl => match us, hl with | [_, _], _ => rfl
  obtain ⟨d_run_firing, F_run_firing⟩ := c.def_ 5 (d := dfn "run_firing" sFiring) rfl
  have g_run_firing := He.glo_ok X G (c.fact 5 (f := .glo "run_firing") rfl)
  have b_run_firing : Binds K d_run_firing ["node", "memory", "rows"] [] := FunD.bindsN F_run_firing fun _ _ _ _ _ _ us hl => match us, hl with | [_, _, _], _ => rfl
  obtain ⟨d__law_cell, F__law_cell⟩ := c.def_ 6 (d := dfn "_law_cell" sCell) rfl
  have g__law_cell := He.glo_ok X G (c.fact 6 (f := .glo "_law_cell") rfl)
  have b__law_cell : Binds K d__law_cell ["_law_script", "_law_k"] [] := FunD.bindsN F__law_cell fun _ _ _ _ _ _ us hl => match us, hl with | [_, _], _ => rfl
  obtain ⟨d__law_pot, F__law_pot⟩ := c.def_ 7 (d := dfn "_law_pot" sPot) rfl
  have g__law_pot := He.glo_ok X G (c.fact 7 (f := .glo "_law_pot") rfl)
  have b__law_pot : Binds K d__law_pot ["_law_cell_here"] [] := FunD.bindsN F__law_pot fun _ _ _ _ _ _ us hl => match us, hl with | [_], _ => rfl
  obtain ⟨d__law_draw, F__law_draw⟩ := c.def_ 8 (d := dfn "_law_draw" sDraw) rfl
  have g__law_draw := He.glo_ok X G (c.fact 8 (f := .glo "_law_draw") rfl)
  have b__law_draw : Binds K d__law_draw ["_law_pot_here", "_law_many"] [] := FunD.bindsN F__law_draw fun _ _ _ _ _ _ us hl => match us, hl with | [_, _], _ => rfl
  obtain ⟨d__law_number, F__law_number⟩ := c.def_ 9 (d := dfn "_law_number" sNumber) rfl
  have g__law_number := He.glo_ok X G (c.fact 9 (f := .glo "_law_number") rfl)
  have b__law_number : Binds K d__law_number ["_law_pot_here"] [] := FunD.bindsN F__law_number fun _ _ _ _ _ _ us hl => match us, hl with | [_], _ => rfl
  obtain ⟨d__law_numbers, F__law_numbers⟩ := c.def_ 10 (d := dfn "_law_numbers" sNumbers) rfl
  have g__law_numbers := He.glo_ok X G (c.fact 10 (f := .glo "_law_numbers") rfl)
  have b__law_numbers : Binds K d__law_numbers ["_law_pot_here", "_law_most"] [] := FunD.bindsN F__law_numbers fun _ _ _ _ _ _ us hl => match us, hl with | [_, _], _ => rfl
  obtain ⟨d__law_tapped, F__law_tapped⟩ := c.def_ 11 (d := dfn "_law_tapped" sTapped) rfl
  have g__law_tapped := He.glo_ok X G (c.fact 11 (f := .glo "_law_tapped") rfl)
  have b__law_tapped : Binds K d__law_tapped ["_law_numbers_here", "_law_rows"] [] := FunD.bindsN F__law_tapped fun _ _ _ _ _ _ us hl => match us, hl with | [_, _], _ => rfl
  obtain ⟨d__law_latched, F__law_latched⟩ := c.def_ 12 (d := dfn "_law_latched" sLatched) rfl
  have g__law_latched := He.glo_ok X G (c.fact 12 (f := .glo "_law_latched") rfl)
  have b__law_latched : Binds K d__law_latched ["_law_rows"] [] := FunD.bindsN F__law_latched fun _ _ _ _ _ _ us hl => match us, hl with | [_], _ => rfl
  obtain ⟨d__law_given, F__law_given⟩ := c.def_ 13 (d := dfn "_law_given" sGiven) rfl
  have g__law_given := He.glo_ok X G (c.fact 13 (f := .glo "_law_given") rfl)
  have b__law_given : Binds K d__law_given ["_law_numbers_here", "_law_rows"] [] := FunD.bindsN F__law_given fun _ _ _ _ _ _ us hl => match us, hl with | [_, _], _ => rfl
  obtain ⟨d__law_made, F__law_made⟩ := c.def_ 14 (d := dfn "_law_made" sMade) rfl
  have g__law_made := He.glo_ok X G (c.fact 14 (f := .glo "_law_made") rfl)
  have b__law_made : Binds K d__law_made ["_law_numbers_here"] [] := FunD.bindsN F__law_made fun _ _ _ _ _ _ us hl => match us, hl with | [_], _ => rfl
  obtain ⟨d__law_right, F__law_right⟩ := c.def_ 15 (d := dfn "_law_right" sLRight) rfl
  have g__law_right := He.glo_ok X G (c.fact 15 (f := .glo "_law_right") rfl)
  have b__law_right : Binds K d__law_right ["_law_pot_here", "_law_node", "_law_numbers_here"] [] := FunD.bindsN F__law_right fun _ _ _ _ _ _ us hl => match us, hl with | [_, _, _], _ => rfl
  obtain ⟨d_law, F_law⟩ := c.def_ 16 (d := dfn "law" sLaw) rfl
  have e := hfa.symm.trans (He.glo_ok X G (c.fact 16 (f := .glo "law") rfl))
  cases e
  have bL := FunD.bindsA (ps := ["_law_script"]) F_law fun _ _ _ _ _ _ us hl => match us, hl with | [_], _ => rfl
  obtain ⟨d_Node_DinitD, F_Node_DinitD⟩ := c.def_ 17 (d := (⟨("Node", some "__init__"), "__init__", "Node.__init__", defArgs sNodeInit, defBody sNodeInit, defScope sNodeInit, [], []⟩ : He.DefD)) rfl
  have b_Node_DinitD : Binds K d_Node_DinitD ["self", "arguments", "late", "begin"] [] := FunD.bindsN F_Node_DinitD fun _ _ _ _ _ _ us hl => match us, hl with | [_, _, _, _], _ => rfl
  obtain ⟨d_Taps_DinitD, F_Taps_DinitD⟩ := c.def_ 18 (d := (⟨("Taps", some "__init__"), "__init__", "Taps.__init__", defArgs sTapsInit, defBody sTapsInit, defScope sTapsInit, [], [("late", .int 0), ("begin", .int 0)]⟩ : He.DefD)) rfl
  obtain ⟨d_Taps_takes, F_Taps_takes⟩ := c.def_ 19 (d := (⟨("Taps", some "takes"), "takes", "Taps.takes", defArgs sTapsTakes, defBody sTapsTakes, defScope sTapsTakes, [], []⟩ : He.DefD)) rfl
  have b_Taps_takes : Binds K d_Taps_takes ["self"] [] := FunD.bindsN F_Taps_takes fun _ _ _ _ _ _ us hl => match us, hl with | [_], _ => rfl
  obtain ⟨d_Taps_gives, F_Taps_gives⟩ := c.def_ 20 (d := (⟨("Taps", some "gives"), "gives", "Taps.gives", defArgs sTapsGives, defBody sTapsGives, defScope sTapsGives, [], []⟩ : He.DefD)) rfl
  have b_Taps_gives : Binds K d_Taps_gives ["self"] [] := FunD.bindsN F_Taps_gives fun _ _ _ _ _ _ us hl => match us, hl with | [_], _ => rfl
  obtain ⟨d_Taps_fresh, F_Taps_fresh⟩ := c.def_ 21 (d := (⟨("Taps", some "fresh"), "fresh", "Taps.fresh", defArgs sTapsFresh, defBody sTapsFresh, defScope sTapsFresh, [], []⟩ : He.DefD)) rfl
  have b_Taps_fresh : Binds K d_Taps_fresh ["self"] [] := FunD.bindsN F_Taps_fresh fun _ _ _ _ _ _ us hl => match us, hl with | [_], _ => rfl
  obtain ⟨d_Taps_fire, F_Taps_fire⟩ := c.def_ 22 (d := (⟨("Taps", some "fire"), "fire", "Taps.fire", defArgs sTapsFire, defBody sTapsFire, defScope sTapsFire, [], []⟩ : He.DefD)) rfl
  have b_Taps_fire : Binds K d_Taps_fire ["self", "memory", "rows"] [] := FunD.bindsN F_Taps_fire fun _ _ _ _ _ _ us hl => match us, hl with | [_, _, _], _ => rfl
  obtain ⟨d_Taps_work, F_Taps_work⟩ := c.def_ 23 (d := (⟨("Taps", some "work"), "work", "Taps.work", defArgs sTapsWork, defBody sTapsWork, defScope sTapsWork, [], []⟩ : He.DefD)) rfl
  have b_Taps_work : Binds K d_Taps_work ["self", "kept", "rows"] [] := FunD.bindsN F_Taps_work fun _ _ _ _ _ _ us hl => match us, hl with | [_, _, _], _ => rfl
  obtain ⟨d_Latch_DinitD, F_Latch_DinitD⟩ := c.def_ 24 (d := (⟨("Latch", some "__init__"), "__init__", "Latch.__init__", defArgs sLatchInit, defBody sLatchInit, defScope sLatchInit, [], [("late", .int 0), ("begin", .int 0)]⟩ : He.DefD)) rfl
  obtain ⟨d_Latch_takes, F_Latch_takes⟩ := c.def_ 25 (d := (⟨("Latch", some "takes"), "takes", "Latch.takes", defArgs sLatchTakes, defBody sLatchTakes, defScope sLatchTakes, [], []⟩ : He.DefD)) rfl
  have b_Latch_takes : Binds K d_Latch_takes ["self"] [] := FunD.bindsN F_Latch_takes fun _ _ _ _ _ _ us hl => match us, hl with | [_], _ => rfl
  obtain ⟨d_Latch_gives, F_Latch_gives⟩ := c.def_ 26 (d := (⟨("Latch", some "gives"), "gives", "Latch.gives", defArgs sLatchGives, defBody sLatchGives, defScope sLatchGives, [], []⟩ : He.DefD)) rfl
  have b_Latch_gives : Binds K d_Latch_gives ["self"] [] := FunD.bindsN F_Latch_gives fun _ _ _ _ _ _ us hl => match us, hl with | [_], _ => rfl
  obtain ⟨d_Latch_fresh, F_Latch_fresh⟩ := c.def_ 27 (d := (⟨("Latch", some "fresh"), "fresh", "Latch.fresh", defArgs sLatchFresh, defBody sLatchFresh, defScope sLatchFresh, [], []⟩ : He.DefD)) rfl
  have b_Latch_fresh : Binds K d_Latch_fresh ["self"] [] := FunD.bindsN F_Latch_fresh fun _ _ _ _ _ _ us hl => match us, hl with | [_], _ => rfl
  obtain ⟨d_Latch_fire, F_Latch_fire⟩ := c.def_ 28 (d := (⟨("Latch", some "fire"), "fire", "Latch.fire", defArgs sLatchFire, defBody sLatchFire, defScope sLatchFire, [], []⟩ : He.DefD)) rfl
  have b_Latch_fire : Binds K d_Latch_fire ["self", "memory", "rows"] [] := FunD.bindsN F_Latch_fire fun _ _ _ _ _ _ us hl => match us, hl with | [_, _, _], _ => rfl
  obtain ⟨d_Latch_work, F_Latch_work⟩ := c.def_ 29 (d := (⟨("Latch", some "work"), "work", "Latch.work", defArgs sLatchWork, defBody sLatchWork, defScope sLatchWork, [], []⟩ : He.DefD)) rfl
  have b_Latch_work : Binds K d_Latch_work ["self", "kept", "rows"] [] := FunD.bindsN F_Latch_work fun _ _ _ _ _ _ us hl => match us, hl with | [_, _, _], _ => rfl
  have z_len := He.free_ok X G (c.fact 17 (f := .free "len") rfl)
  have z_max := He.free_ok X G (c.fact 18 (f := .free "max") rfl)
  have z_min := He.free_ok X G (c.fact 19 (f := .free "min") rfl)
  have z_range := He.free_ok X G (c.fact 20 (f := .free "range") rfl)
  have z_isinstance := He.free_ok X G (c.fact 21 (f := .free "isinstance") rfl)
  have z_int := He.free_ok X G (c.fact 22 (f := .free "int") rfl)
  have z_bool := He.free_ok X G (c.fact 23 (f := .free "bool") rfl)
  have z_list := He.free_ok X G (c.fact 24 (f := .free "list") rfl)
  have z_repr := He.free_ok X G (c.fact 25 (f := .free "repr") rfl)
  have z_all := He.free_ok X G (c.fact 26 (f := .free "all") rfl)
  have z_sum := He.free_ok X G (c.fact 27 (f := .free "sum") rfl)
  have z_zip := He.free_ok X G (c.fact 28 (f := .free "zip") rfl)
  have z_MOST_LATE := He.int_ok X G (c.fact 29 (f := .int "MOST_LATE" 99) rfl)
  have z_MOST_BEGIN := He.int_ok X G (c.fact 30 (f := .int "MOST_BEGIN" 9999) rfl)
  have z_MOST_TAPS := He.int_ok X G (c.fact 31 (f := .int "MOST_TAPS" 12) rfl)
  have G_Node := He.glo_ok X G (c.fact 32 (f := .glo "Node") rfl)
  have G_Taps := He.glo_ok X G (c.fact 33 (f := .glo "Taps") rfl)
  have G_Latch := He.glo_ok X G (c.fact 34 (f := .glo "Latch") rfl)
  have c_Taps := He.cls_ok (c.fact 35 (f := .cls "Taps") rfl)
  have n_Taps_made := He.noat_ok (c.fact 36 (f := .noat "Taps" "made") rfl)
  have n_Taps_late_by := He.noat_ok (c.fact 37 (f := .noat "Taps" "late_by") rfl)
  have n_Taps_begin_at := He.noat_ok (c.fact 38 (f := .noat "Taps" "begin_at") rfl)
  have n_Taps_numbers := He.noat_ok (c.fact 39 (f := .noat "Taps" "numbers") rfl)
  have mk_Taps := He.mkr_ok (c.fact 40 (f := .mkr "Taps") rfl)
  have m_Taps_takes := He.meth_ok (c.fact 41 (f := .meth "Taps" "takes") rfl)
  have m_Taps_gives := He.meth_ok (c.fact 42 (f := .meth "Taps" "gives") rfl)
  have m_Taps_fresh := He.meth_ok (c.fact 43 (f := .meth "Taps" "fresh") rfl)
  have m_Taps_fire := He.meth_ok (c.fact 44 (f := .meth "Taps" "fire") rfl)
  have m_Taps_work := He.meth_ok (c.fact 45 (f := .meth "Taps" "work") rfl)
  have c_Latch := He.cls_ok (c.fact 46 (f := .cls "Latch") rfl)
  have n_Latch_made := He.noat_ok (c.fact 47 (f := .noat "Latch" "made") rfl)
  have n_Latch_late_by := He.noat_ok (c.fact 48 (f := .noat "Latch" "late_by") rfl)
  have n_Latch_begin_at := He.noat_ok (c.fact 49 (f := .noat "Latch" "begin_at") rfl)
  have mk_Latch := He.mkr_ok (c.fact 50 (f := .mkr "Latch") rfl)
  have m_Latch_takes := He.meth_ok (c.fact 51 (f := .meth "Latch" "takes") rfl)
  have m_Latch_gives := He.meth_ok (c.fact 52 (f := .meth "Latch" "gives") rfl)
  have m_Latch_fresh := He.meth_ok (c.fact 53 (f := .meth "Latch" "fresh") rfl)
  have m_Latch_fire := He.meth_ok (c.fact 54 (f := .meth "Latch" "fire") rfl)
  have m_Latch_work := He.meth_ok (c.fact 55 (f := .meth "Latch" "work") rfl)
  obtain ⟨ds1, v1, b1⟩ := FunD.binds0 (ps := ["self", "numbers", "late", "begin"]) F_Taps_DinitD 2 (by intro z; cases z) rfl (by
      intro D doc pm an cdv ct us ks l1 l2
      match us, ks, l1, l2 with
      | [_, _], [_, _], _, _ => exact ⟨_, _, _, _, _, _, rfl, rfl, _, _, _, _, _, _, rfl, rfl, rfl⟩)
  obtain ⟨ds2, v2, b2⟩ := FunD.binds0 (ps := ["self", "late", "begin"]) F_Latch_DinitD 1 (by intro z; cases z) rfl (by
      intro D doc pm an cdv ct us ks l1 l2
      match us, ks, l1, l2 with
      | [_], [_, _], _, _ => exact ⟨_, _, _, _, _, _, rfl, rfl, _, _, _, _, _, _, rfl, rfl, rfl⟩)
  refine ⟨d_law, fun s v => bL s [v] rfl, fun base _ _ => ?_⟩
  have TT : TapsC K (He.ga K "Taps") := ⟨⟨c_Taps, n_Taps_made, n_Taps_late_by, n_Taps_begin_at⟩, n_Taps_numbers⟩
  have TL : NodeC K (He.ga K "Latch") := ⟨c_Latch, n_Latch_made, n_Latch_late_by, n_Latch_begin_at⟩
  have G0 : FnOk P w K mg base CX0 1 _ d_is_whole ["thing"] (spWhole K) := ok_whole F_is_whole z_isinstance z_int z_bool
  have G1 : FnOk P w K mg base CX0 2 _ d_is_whole_within ["thing", "least", "most"] (spWithin K) := ok_within F_is_whole_within G0 g_is_whole F_is_whole.kp b_is_whole
  have G2 : FnOk P w K mg base CX0 1 _ d_need ["holds", "field"] spNeed := ok_need F_need
  have G3 : FnOk P w K mg base CX0 2 _ d_are_wholes ["things"] (spWholes K) := ok_wholes F_are_wholes G0 g_is_whole F_is_whole.kp b_is_whole z_all
  have G4 : FnOk P w K mg base CX0 3 _ d_is_list_of_wholes ["thing", "least", "most"] (spListOf K) := ok_listOf F_is_list_of_wholes G3 g_are_wholes F_are_wholes.kp b_are_wholes z_isinstance z_list z_len
  have G7 : FnOk P w K mg base CX0 1 _ d__law_draw ["_law_pot_here", "_law_many"] spDraw := ok_draw F__law_draw
  have G8 : FnOk P w K mg base CX0 2 _ d__law_number ["_law_pot_here"] spNumber := ok_number F__law_number F__law_draw g__law_draw z_range
  have G9 : FnOk P w K mg base CX0 3 _ d__law_numbers ["_law_pot_here", "_law_most"] spNumbers := ok_numbers F__law_numbers G7 g__law_draw F__law_draw.kp b__law_draw G8 g__law_number F__law_number.kp b__law_number z_range
  have GI := ok_tapsInit (P := P) (w := w) (mg := mg) (base := base) F_Taps_DinitD G2 g_need F_need.kp b_need G4 g_is_list_of_wholes F_is_list_of_wholes.kp b_is_list_of_wholes (ok_nodeInit F_Node_DinitD G2 g_need F_need.kp b_need G1 g_is_whole_within F_is_whole_within.kp b_is_whole_within z_MOST_LATE z_MOST_BEGIN TT.n) G_Node (baseB_ok cx) b_Node_DinitD z_MOST_TAPS z_list TT
  have GJ := ok_latchInit (P := P) (w := w) (mg := mg) (base := base) F_Latch_DinitD (ok_nodeInit F_Node_DinitD G2 g_need F_need.kp b_need G1 g_is_whole_within F_is_whole_within.kp b_is_whole_within z_MOST_LATE z_MOST_BEGIN TL) G_Node (baseB_ok cx) b_Node_DinitD TL
  have GM : FnOk P w K mg base CX0 6 _ d__law_made ["_law_numbers_here"] (spMade K (He.ga K "Taps") (He.ga K "Latch")) := ok_made F__law_made mk_Taps GI G_Taps b1 v1 mk_Latch GJ G_Latch b2 v2 z_list
  have GV : FnOk P w K mg base CX0 2 _ d__law_given ["_law_numbers_here", "_law_rows"] spGiven := ok_given F__law_given (ok_tapped F__law_tapped z_len z_range) g__law_tapped F__law_tapped.kp b__law_tapped (ok_latched F__law_latched z_len z_max) g__law_latched F__law_latched.kp b__law_latched
  have W1 : FnOk P w K mg base CX0 1 _ d_Taps_work ["self", "kept", "rows"] (spTapsWork K (He.ga K "Taps")) := ok_tapsWork F_Taps_work TT z_sum z_zip
  have W2 : FnOk P w K mg base CX0 1 _ d_Latch_work ["self", "kept", "rows"] (spLatchWork K (He.ga K "Latch")) := ok_latchWork F_Latch_work
  have R1 : FnOk P w K mg base CX0 2 _ d_run_firing ["node", "memory", "rows"] (spFiring K (He.ga K "Taps") (spTapsWork K (He.ga K "Taps"))) := ok_firing (k := 0) F_run_firing c_Taps (ok_tapsGives (sp := spGives1 (He.ga K "Taps")) (fun vs H Q E h => by obtain ⟨p, dx, fs, e, _, q⟩ := h; exact ⟨by rw [e]; rfl, q⟩) F_Taps_gives) m_Taps_gives b_Taps_gives W1 m_Taps_work b_Taps_work wide_tapsWork
  have R2 : FnOk P w K mg base CX0 2 _ d_run_firing ["node", "memory", "rows"] (spFiring K (He.ga K "Latch") (spLatchWork K (He.ga K "Latch"))) := ok_firing (k := 0) F_run_firing c_Latch (ok_latchGives (sp := spGives1 (He.ga K "Latch")) (fun vs H Q E h => by obtain ⟨p, dx, fs, e, _, q⟩ := h; exact ⟨by rw [e]; rfl, q⟩) F_Latch_gives) m_Latch_gives b_Latch_gives W2 m_Latch_work b_Latch_work wide_latchWork
  have H1 : FnG P w K mg base CX0 6 _ d__law_right ["_law_pot_here", "_law_node", "_law_numbers_here"] (spMRight (tapsM K (He.ga K "Taps"))) := ok_lRight (tapsM K (He.ga K "Taps")) F__law_right c_Taps (ok_tapsTakes F_Taps_takes) m_Taps_takes b_Taps_takes (ok_tapsGives (fun vs H Q E h => by obtain ⟨i, e, _, q⟩ := h; exact ⟨by rw [e]; rfl, q⟩) F_Taps_gives) m_Taps_gives b_Taps_gives (ok_tapsFresh F_Taps_fresh TT z_len) m_Taps_fresh b_Taps_fresh (ok_tapsFire F_Taps_fire R1 g_run_firing F_run_firing.kp b_run_firing) m_Taps_fire b_Taps_fire GV g__law_given F__law_given.kp b__law_given G7 g__law_draw F__law_draw.kp b__law_draw G8 g__law_number F__law_number.kp b__law_number z_range z_repr z_list
  have H2 : FnG P w K mg base CX0 6 _ d__law_right ["_law_pot_here", "_law_node", "_law_numbers_here"] (spMRight (latchM K (He.ga K "Latch"))) := ok_lRight (latchM K (He.ga K "Latch")) F__law_right c_Latch (ok_latchTakes F_Latch_takes) m_Latch_takes b_Latch_takes (ok_latchGives (fun vs H Q E h => by obtain ⟨i, e, _, q⟩ := h; exact ⟨by rw [e]; rfl, q⟩) F_Latch_gives) m_Latch_gives b_Latch_gives (ok_latchFresh F_Latch_fresh TL) m_Latch_fresh b_Latch_fresh (ok_latchFire F_Latch_fire R2 g_run_firing F_run_firing.kp b_run_firing) m_Latch_fire b_Latch_fire GV g__law_given F__law_given.kp b__law_given G7 g__law_draw F__law_draw.kp b__law_draw G8 g__law_number F__law_number.kp b__law_number z_range z_repr z_list
  exact ok_law F_law (ok_cell F__law_cell z_len) g__law_cell F__law_cell.kp b__law_cell (ok_pot F__law_pot z_max) g__law_pot F__law_pot.kp b__law_pot G7 g__law_draw F__law_draw.kp b__law_draw G9 g__law_numbers F__law_numbers.kp b__law_numbers GM g__law_made F__law_made.kp b__law_made (H1.or H2) g__law_right F__law_right.kp b__law_right z_range z_max z_min z_len
end Sw
open PySem PySem.W PySem.Calls PyProof.Rows
theorem PySem.Challenge.cw_sampleweave_k14_taps_and_latches_holds : PySem.Challenge.rw_sampleweave_k14_taps_and_latches.Holds := by
  w_on; o_law
  refine HandSHeadRun.head_any (r := OpenLaw.row PySem.Challenge.rw_sampleweave_k14_taps_and_latches) (q := view (OpenLaw.row PySem.Challenge.rw_sampleweave_k14_taps_and_latches).prog [31]) (H := Sw.hk) (ob := Sw.ob) (M := 9000) (loose := Sw.loose) (d := HandSHeadRun.topDef (OpenLaw.row PySem.Challenge.rw_sampleweave_k14_taps_and_latches).prog 31) (kwd := []) Sw.ob_eq
    (by kernel_rfl) (fun s => by kernel_rfl) Sw.run (by kernel_rfl) (by kernel_rfl) (by kernel_rfl) (by rfl) (by first | assumption | decide +kernel) (by decide +kernel) ⟨rfl, rfl, rfl, rfl, rfl, by decide +kernel⟩ ?hw ?hc
  case hw => w_witness2
  case hc =>
    refine L2.walk_goes (l := PySem.Challenge.rw_sampleweave_k14_taps_and_latches) (n := 63) (k := 8) (x := "_law_script") (CX := L2.CX0) rfl (by decide) (by kernel_rfl) ⟨rfl, by decide, by decide⟩ ?F (fun _ _ _ _ z => z)
    intro w mg fa h Y G hmg0
    obtain ⟨K, KX, cx, c⟩ := Y
    have hmg : mg ("law" : PySem.Str) = some (.ref fa) := by
      have e : (HandSHeadRun.topDef (OpenLaw.row PySem.Challenge.rw_sampleweave_k14_taps_and_latches).prog 31).name = ("law" : PySem.Str) := by kernel_rfl
      rw [← e]
      exact hmg0
    obtain ⟨fd, hb, hF⟩ := Sw.facts (P := (PySem.Challenge.rw_sampleweave_k14_taps_and_latches).prog) (w := w) KX G hmg cx c
    exact ⟨K, fd, Sw.spLaw K, KX, hb, fun H a ns hl _ hS => ⟨a, ns, rfl, hS, hl, fun _ => rfl⟩, hF⟩
