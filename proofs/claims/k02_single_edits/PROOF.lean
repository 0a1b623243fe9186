import PyProof.Rows.All
import Wide.All
import OpenK.AllK
import Wide.FinOn
import HandS.ForMost
import HandS.Wide
import HandS.Style
import HandS.TupAny
import PyProof.ReprRoads
import HandS.AnyAll
import HandS.EndTab
import HandS.FStrTup
import HandS.IsInst
import PySem.Challenge.RW_crossundo_k02_single_edits
set_option Elab.async false
set_option linter.all false
set_option maxRecDepth 100000
set_option maxHeartbeats 4000000
namespace Cu
open PySem PySem.Spec PyProof.Rows L2
/-- all but the object at a is as it was -/
def Upto (a : Addr) (H H' : Hp) : Prop := ∀ b o, b ≠ a → H b = some o → H' b = some o
theorem Upto.refl (a : Addr) (H : Hp) : Upto a H H := fun _ _ _ e => e
theorem Upto.trans {a : Addr} {H H1 H2 : Hp} (x : Upto a H H1) (y : Upto a H1 H2) : Upto a H H2 := fun b o n e => y b o n (x b o n e)
theorem Upto.of {a : Addr} {H H' : Hp} (x : Same H H') : Upto a H H' := fun b o _ e => x b o e
theorem Upto.upd {a : Addr} {H : Hp} {o : HO} : Upto a H (upd H a o) := fun b u n e => by rw [upd_ne n]; exact e
theorem same_upd {H : Hp} {p : Addr} {o : HO} (h : H p = none) : Same H (upd H p o) := fun b x e => by
  rw [upd_ne (ne_of_none e h)]
  exact e
theorem Upto.new {a p : Addr} {H : Hp} {o : HO} (h : H p = none) : Upto a H (L2.upd H p o) := .of (same_upd h)
theorem Upto.free {a l : Addr} {H H1 : Hp} (u : Upto a H H1) (n : l ≠ a) (e : H1 l = none) : H l = none := by
  cases h : H l with
  | none => rfl
  | some o =>
    rw [u l o n h] at e
    cases e
theorem Upto.put {a l : Addr} {H H2 : Hp} {o : HO} (u : Upto a H H2) (e : H l = none) : Upto a H (L2.upd H2 l o) := fun b x n eb => by
  rw [upd_ne (ne_of_none eb e)]
  exact u b x n eb
theorem Hand.ne {H : Hp} {a l : Addr} (h : ∃ o, H a = some o) (e : H l = none) : l ≠ a := fun z => by
  obtain ⟨o, eo⟩ := h
  rw [z, eo] at e
  cases e
theorem iffF {b : Bool} {A B : Prop} (h : b = false) (hB : B) : if b = true then A else B := by
  rw [h, if_neg Bool.false_ne_true]
  exact hB
theorem iffT {b : Bool} {A B : Prop} (h : b = true) (hA : A) : if b = true then A else B := by
  rw [h, if_pos rfl]
  exact hA
theorem ne_self (x : V) : (!decide (x = x)) = false := by
  rw [decide_eq_true rfl]
  rfl
theorem Upto.list {a l : Addr} {H H' : Hp} {xs : List V} (u : Upto a H H') (n : l ≠ a) (e : H l = some (.lst xs)) : H' l = some (.lst xs) := u l _ n e
/-- the hand: three ints; the third counts at most n draws -/
def Hand (H : Hp) (a : Addr) (n : Nat) : Prop := ∃ g x c : Int, H a = some (.lst [.int g, .int x, .int c]) ∧ 0 ≤ g ∧ g < 2 ^ 600 ∧ 0 ≤ x ∧ x < 2147483647 ∧ 0 ≤ c ∧ c ≤ n
theorem Hand.mono {H : Hp} {a : Addr} {n m : Nat} (h : Hand H a n) (l : n ≤ m) : Hand H a m := by
  obtain ⟨g, x, c, h1, h2, h3, h4, h5, h6, h7⟩ := h
  exact ⟨g, x, c, h1, h2, h3, h4, h5, h6, by omega⟩
theorem Hand.same {H H' : Hp} {a : Addr} {n : Nat} (h : Hand H a n) (s : Same H H') : Hand H' a n := by
  obtain ⟨g, x, c, h1, h2⟩ := h
  exact ⟨g, x, c, s _ _ h1, h2⟩
theorem Hand.at {H H' : Hp} {a : Addr} {n : Nat} (h : Hand H a n) (s : H' a = H a) : Hand H' a n := by
  obtain ⟨g, x, c, h1, h2⟩ := h
  exact ⟨g, x, c, s.trans h1, h2⟩
theorem Hand.some {H : Hp} {a : Addr} {n : Nat} (h : Hand H a n) : ∃ o, H a = some o := by
  obtain ⟨g, x, c, h1, h2⟩ := h
  exact ⟨_, h1⟩
theorem Hand.new {H : Hp} {a p : Addr} {o : HO} {n : Nat} (h : Hand H a n) (e : H p = none) : Hand (L2.upd H p o) a n := h.same (same_upd e)
section
variable {X : Cx}
/-- data that repr can show -/
structure Shw (d : PyData) : Prop where
  show_ : d.showable = true
  dict : d.hasDict = false
  dep : d.depth ≤ 60
  len : d.shown.length ≤ sizeLine
/-- repr(x) of data: None, bools, ints, texts, lists, tuples -/
def rReprD (K : PySem.W.Frag) : List V → Hp → VK → Prop := fun xs H Q => ∃ x d, xs = [x] ∧ Dp K H x d ∧ Shw d ∧ Q (.str d.shown) H
theorem call_reprD (hg : X.A.guards = some []) (hu : X.A.units + 64 < cLine) : CallR X (.builtin "repr") (rReprD X.K) := by
  intro pins s σ H xs us Q I r h
  obtain ⟨x, d, rfl, hd, ⟨hs, hn, h6, hz⟩, q⟩ := h
  obtain ⟨u, rfl, ru⟩ := vals1 r
  obtain ⟨as, rd⟩ := Dp.reads I d x u hd ru
  cases hd with
  | non =>
    cases ru
    exact PySem.P.repr_of_none ⟨.str _, H, I.tok _, ⟨_, rfl⟩, q⟩
  | bl b =>
    cases ru
    cases b
    · exact PySem.P.repr_of_bool ⟨.str _, H, I.tok _, ⟨_, rfl⟩, q⟩
    · exact PySem.P.repr_of_bool ⟨.str _, H, I.tok _, ⟨_, rfl⟩, q⟩
  | int i =>
    obtain ⟨t, rfl⟩ := ru
    refine PySem.P.repr_of_int ?_ ⟨.str _, H, I.tok _, ⟨_, rfl⟩, q⟩
    exact of_decide_eq_true hs
  | str y =>
    obtain ⟨t, rfl⟩ := ru
    exact PySem.P.repr_of_str ⟨.str _, H, I.tok _, ⟨_, rfl⟩, q⟩ hz
  | lst sq all =>
    obtain rfl : u = _ := ru
    exact repr_of_reads' rd hs (fun z => by rw [hn] at z; cases z) hg (by omega) (fun _ _ e => e) (fun h' t tk k => ⟨.str _, H, I.kept k, ⟨t, rfl⟩, q⟩) hz
  | tup sq all =>
    obtain rfl : u = _ := ru
    exact repr_of_reads' rd hs (fun z => by rw [hn] at z; cases z) hg (by omega) (fun _ _ e => e) (fun h' t tk k => ⟨.str _, H, I.kept k, ⟨t, rfl⟩, q⟩) hz
end
/-- a def's promise where no repr is under way -/
structure FnG (P : Program) (w : World) (K : PySem.W.Frag) (mg : Str → Option Value) (base : Heap) (CX : CXT) (k : Nat) (f : Addr) (fd : FuncData) (ps : List Str) (sp : Sp) : Prop where
  len : ∀ vs H Q E, sp vs H Q E → vs.length = ps.length
  run : ∀ (A : Around) (outer : List Env) (s : Shared) (H : Hp) (args : Args) (us : List Value) (vs : List V) (Q : VK) (E : XK), A.guards = some [] → Room k A → Env0 P w K mg base A outer s H →
    BindsTo s fd args (ps.zip us) → Vals vs us → sp vs H Q E → codeAny (model P w) A (.call (.ref f) args) (CR CX outer P w H s Q E) s
theorem FnG.of {P : Program} {w : World} {K : PySem.W.Frag} {mg : Str → Option Value} {base : Heap} {CX : CXT} {k : Nat} {f : Addr} {fd : FuncData} {ps : List Str} {sp : Sp} (F : FnOk P w K mg base CX k f fd ps sp) : FnG P w K mg base CX k f fd ps sp :=
  ⟨F.len, fun A outer s H args us vs Q E _ => F.run A outer s H args us vs Q E⟩
theorem FnG.mono {P : Program} {w : World} {K : PySem.W.Frag} {mg : Str → Option Value} {base : Heap} {CX : CXT} {j k : Nat} {f : Addr} {fd : FuncData} {ps : List Str} {sp : Sp} (F : FnG P w K mg base CX j f fd ps sp) (h : j ≤ k) : FnG P w K mg base CX k f fd ps sp :=
  ⟨F.len, fun A outer s H args us vs Q E g hr => F.run A outer s H args us vs Q E g (hr.mono h)⟩
section
variable {X : Cx} {CX : CXT} {k : Nat} {f : Addr} {fd : FuncData} {ps : List Str} {sp : Sp} {dvs : List V} {ds : List Value} {E : XK} {x : Str} {p pos : Pos} {e : Expr} {es : List Expr} {t : TA}
theorem pe_callG (F : FnG X.prog X.w X.K X.mg X.base CX k f fd ps sp) (gd : X.A.guards = some []) (hr : Room k X.A) (hg : Gl X x) (hm : X.mg x = some (.ref f)) (hk : PySem.W.keepIn X.K (.ref f) = true) (hb : Binds X.K fd ps ds) (hd : Vals dvs ds) (hx : Passes CX X E)
    (ha : PA X (e :: es) t) (hdb : (x == ("__debug__" : Str)) = false := by decide) (he : starEach (e :: es) X.env = (false, eval e X.env) :: starEach es X.env := by rfl) (hpl : (backTo pos (starEach es X.env)).any (·.1) = false := by rfl) :
    PE X (.Call (.Name x p) (e :: es) [] pos) (tCall sp dvs E t) := by
  constructor
  intro pins s σ H Q I h
  apply wpAny_Call_Name_kw
  apply ld_glob I hg hm _ hdb
  refine PySem.W.callWith_K (h₀ := X.base) I.ok.mod.kin hk (thn (ha.run pos pins s σ H _ I h) ?_) he hpl
  rintro us s1 ⟨vs, H1, I1, r, q⟩
  refine ⟨I1.kIn, ?_⟩
  have rr := r.append hd
  have ll : (us ++ ds).length = ps.length := rr.length.symm.trans (F.len _ _ _ _ q)
  apply wpAny_call
  refine codeAny_mono (F.run X.A X.stack s1 H1 ⟨us, []⟩ (us ++ ds) (vs ++ dvs) Q E gd hr I1.env0 (hb s1 us I1.kIn ll) rr q) ?_
  intro z s2 hz
  match z, hz with
  | .error er, hz => exact hx pins σ H1 s1 er s2 I1 hz
  | .ok (.ret u), hz => exact I1.after hz
  | .ok .next, hz => exact hz.elim
  | .ok .brk, hz => exact hz.elim
  | .ok .cont, hz => exact hz.elim
end

/-- a def by its body, where no repr is under way -/
theorem okG {P : Program} {w : World} {K : PySem.W.Frag} {mg : Str → Option Value} {base : Heap} {x qual : Str} {st : Stmt} {f : Addr} {fd : FuncData} {N ps : List Str} {k : Nat} {sp : Sp} (F : Fun K x qual st f fd) (S : FnScope N ps (defScope st)) (len : ∀ vs H Q E, sp vs H Q E → vs.length = ps.length)
    (hbody : ∀ (cdv : Value) (A : Around) (outer : List Env) (s : Shared) (H : Hp) (vs : List V) (Q : VK) (E : XK), (A.deeper (envOfC qual (defScope st) s.heap.objs.size f cdv)).guards = some [] → Room k (A.deeper (envOfC qual (defScope st) s.heap.objs.size f cdv)) → sp vs H Q E →
      ∃ t, PSs (cxOf CX0 P w K mg base N qual (defScope st) f cdv A outer s H E).nox (defBody st) t ∧ t { nx := fun _ H' => Q .non H', rt := Q } (start N vs) H) : FnG P w K mg base CX0 (k + 1) f fd ps sp := by
  obtain ⟨oc, od, kV, doc, pm, an, cdv, ct, osl, rfl, lk, hcd⟩ := F.ex
  constructor
  · exact len
  intro A outer s H args us vs Q E gd hr e0 hb r hsp
  have keep : ∀ b o, base.get? b = some o → s.heap.get? b = some o := fun b o e => (e0.bs b o e).1
  have kin := e0.mod.kin.keeps keep
  have par : ∀ y ∈ ps.zip us, (defScope st).names.lookup y.1 = some .local ∨ ((defScope st).names.lookup y.1 = some .cell ∧ ((cellsFrom (s.heap.objs.size + 1) (defScope st).names []).lookup y.1).isSome = true) := by
    intro y hy
    have mem : y.1 ∈ ps := (List.of_mem_zip (a := y.1) (b := y.2) hy).1
    cases S.par y.1 mem with
    | inl q => exact Or.inl q
    | inr q => exact Or.inr (And.intro q (PySem.W.cellsFrom_some _ _ _ (Or.inl q)))
  apply codeAny_call_function hr.depth (kin _ _ lk) rfl S.co S.gen rfl (PySem.W.codeRec_of kin hcd)
  apply hb
  apply wpAny_newFunctionEnv_cells S.kind par
  rintro env rfl s1 ic
  refine And.intro ((e0.mod.nolimit.keeps keep).keeps ic.toInCall.keep) (codeAny_func ?_)
  obtain ⟨t, ht, hq⟩ := hbody cdv A outer s H vs Q E gd (hr.deeper _) hsp
  have I0 := inv_start (CX := CX0) (qual := qual) (f := f) (cd := cdv) (E := E) S hr.hd e0 (len _ _ _ _ hsp) r ic
  refine wpAny_mono (ht.nox.run [] s1 _ H _ I0 hq) ?_ (fun _ _ z => z)
  intro fl s' hs
  match fl, hs with
  | .ret u, ⟨v, σ', H', J, rv, q⟩ => exact ⟨v, H', J.os, J.bare, J.base, J.hok, rv, q⟩
  | .next, ⟨σ', H', J, q⟩ => exact ⟨V.non, H', J.os, J.bare, J.base, J.hok, rfl, q⟩
  | .brk, ⟨_, _, _, q⟩ => exact q.elim
  | .cont, ⟨_, _, _, q⟩ => exact q.elim

section
variable {P : Program} {w : World} {K : PySem.W.Frag} {mg mb : Str → Option Value} {k : Nat} {fa a : Addr} {tb : List (Addr × Addr)} {fd : FuncData} {x : Str} {sp : Sp} {s1 : Shared} {vs : List Value} {ns : List Int}
/-- what is tracked when the law begins: its script s (unless the top owns it) and the tables -/
structure Begin (K : PySem.W.Frag) (h : Heap) (tabs : List Addr) (a : Addr) (vs : List Value) (ns : List Int) (H : Hp) : Prop where
  tabAt : ∀ b ∈ tabs, H b = some (.tbl #[])
  tabIs : ∀ b ∈ tabs, h.get? b = some { cls := .none, data := .fields #[] }
  tabK : ∀ b ∈ tabs, K.lookup b = none
  seq : SqL K H a (ns.map V.int)
  other : ∀ b, b ∉ tabs → b ≠ a → H b = none
  script : a ∉ tabs → H a = none ∨ (K.lookup a = none ∧ H a = some (.frz { cls := .type "list", data := .seq vs.toArray } (.lst (ns.map V.int))))
theorem Begin.kinds {H : Hp} {tabs : List Addr} {h : Heap} (B : Begin K h tabs a vs ns H) (b : Addr) : H b = none ∨ b ∈ tabs ∨ (b = a ∧ K.lookup a = none ∧ H b = some (.frz { cls := .type "list", data := .seq vs.toArray } (.lst (ns.map V.int)))) := by
  by_cases m : b ∈ tabs
  · exact .inr (.inl m)
  · by_cases e : b = a
    · subst e
      rcases B.script m with z | ⟨z1, z2⟩
      · exact .inl z
      · exact .inr (.inr ⟨rfl, z1, z2⟩)
    · exact .inl (B.other b m e)
/-- an object that is neither a table nor the script is not tracked -/
theorem Begin.out {H : Hp} {tabs : List Addr} {h : Heap} (B : Begin K h tabs a vs ns H) (ha : h.get? a = some { cls := .type "list", data := .seq vs.toArray }) {b : Addr} {o : Obj} (e : h.get? b = some o)
    (n1 : ∀ us n, o.data ≠ .seq us n) (n2 : o.data ≠ .fields #[]) : H b = none := by
  rcases B.kinds b with z | z | ⟨z, _⟩
  · exact z
  · have q := e.symm.trans (B.tabIs b z)
    cases q
    exact absurd rfl n2
  · subst z
    have q := e.symm.trans ha
    cases q
    exact absurd rfl (n1 _ _)
theorem Begin.run {H : Hp} (B : Begin K s1.heap (tb.map (·.2)) a vs ns H) (hok : HOk P w H s1.heap) (KX : K.In s1.heap) (hns : s1.heap.Ns mainGlobals mg) (hb : s1.heap.Ns builtinsNs mb) (hbb : ∀ x : Str, x ≠ "__name__" → mb x = bootBuiltins x)
    (hlim : s1.heap.NoLimit) (hg : s1.gens = #[]) (cds : ∀ p ∈ tb, PySem.W.CodeHd s1.heap p.1 p.2)
    (hbm : ∃ (bm : Addr) (ob : Obj), mg "__builtins__" = some (.ref bm) ∧ bm ≠ builtinsNs ∧ s1.heap.get? bm = some ob ∧ ob.cls = .type "module" ∧ ob.dict = some builtinsNs ∧ ob.data = .plain)
    (ha : s1.heap.get? a = some { cls := .type "list", data := .seq vs.toArray }) (hr : Room k callerA)
    (hsy : ∃ mm, s1.heap.Ns sysModules mm) (F : ∀ base : Heap, K.In base → base.Ns mainGlobals mg → (∀ p ∈ tb, GxR.TabB base mg p.1 p.2) → (∃ o, base.get? sysModules = some o) → FnG P w K mg base CX0 k fa fd [x] sp)
    (bind : ∀ (s : Shared) (u : Value), BindsTo s fd ⟨[u], []⟩ [(x, u)]) (want : sp [.ref a] H (fun v _ => v = .bl true) fun _ _ _ => False) :
    codeAny (model P w) callerA (.call (.ref fa) ⟨[.ref a], []⟩) (fun r s' => r = .ok (.ret (.bool true)) ∧ OldK s1.heap s'.heap ∧ s'.os = s1.os ∧ AllBare s'.gens) s1 := by
  have out := fun {b : Addr} {o : Obj} => B.out (b := b) (o := o) ha
  have low : ∀ {b : Addr} {o : Obj}, s1.heap.get? b = some o → H b = none → (hidT s1.heap H).get? b = some o := fun e n => hidT_get e n
  have lowNs : ∀ {b : Addr} {m : Str → Option Value}, s1.heap.Ns b m → (hidT s1.heap H).Ns b m := by
    rintro b m ⟨o, es, ep, e, d, r⟩
    refine ⟨o, es, ep, low e (out e ?_ ?_), d, r⟩
    · intro us n z
      cases d.symm.trans z
    · intro z
      cases d.symm.trans z
  have lowK : K.In (hidT s1.heap H) := by
    intro b o e
    refine low (KX b o e) ?_
    rcases B.kinds b with z | z | ⟨z1, z2, _⟩
    · exact z
    · cases (B.tabK b z).symm.trans e
    · subst z1
      cases z2.symm.trans e
  have lim : (hidT s1.heap H).NoLimit := by
    obtain ⟨mc, q1, q2⟩ := hlim
    exact ⟨mc, lowNs q1, q2⟩
  have tabs : ∀ p ∈ tb, GxR.TabB (hidT s1.heap H) mg p.1 p.2 := by
    intro p hp
    have isT := B.tabIs p.2 (List.mem_map.mpr ⟨p, hp, rfl⟩)
    constructor
    · obtain ⟨o, us, file, tf, flags, tg, inF, text, tt, e1, r1, r2, r3, rest⟩ := cds p hp
      refine ⟨o, us, file, tf, flags, tg, inF, text, tt, low e1 (out e1 ?_ ?_), r1, r2, r3, rest⟩
      · intro us n z
        cases r2.symm.trans z
      · intro z
        have z' := r2.symm.trans z
        cases z'
        simp at r3
    · obtain ⟨bm, ob, b1, b2, b3, b4, b5, b6⟩ := hbm
      refine ⟨bm, ob, b1, b2, ?_, ?_, low b3 (out b3 ?_ ?_), b4, b5, b6⟩
      · intro q
        obtain ⟨o, es, ep, e, hd, _⟩ := hns
        rw [← q, b3] at e
        cases e
        cases b6.symm.trans hd
      · intro q
        rw [q, isT] at b3
        cases b3
        cases b6
      · intro us n z
        cases b6.symm.trans z
      · intro z
        cases b6.symm.trans z
    · intro z
      obtain ⟨o, es, ep, e, hd, _⟩ := hns
      rw [z, isT] at e
      cases e
      cases hd
  have md : L2.Mod K mg (hidT s1.heap H) := ⟨lowK, lowNs hns, ⟨mb, lowNs hb, hbb⟩, lim⟩
  have env : Env0 P w K mg (hidT s1.heap H) callerA [] s1 H := by
    refine ⟨rfl, md, fun b o e => of_hidT e, Nat.le_of_eq (hidT_size _ _), trivial, ?_, hok, .of_eq hg⟩
    intro b z
    cases z
  have sysb : ∃ o, (hidT s1.heap H).get? sysModules = some o := by
    obtain ⟨mm, z⟩ := hsy
    obtain ⟨o, _, _, e, _⟩ := lowNs z
    exact ⟨o, e⟩
  have go := (F _ lowK (lowNs hns) tabs sysb).run callerA [] s1 H ⟨[.ref a], []⟩ [.ref a] [.ref a] _ _ rfl hr env (bind s1 (.ref a)) (.cons rfl .nil) want
  refine codeAny_mono go ?_
  intro r s' h
  match r, h with
  | .error e, h => exact False.elim h
  | .ok .next, h => exact h.elim
  | .ok .brk, h => exact h.elim
  | .ok .cont, h => exact h.elim
  | .ok (.ret u), ⟨v, H', os, bare, un, hok', rel, q⟩ =>
    cases q
    cases rel
    have stay : ∀ b o, b ∉ tb.map (·.2) → s1.heap.get? b = some o → s'.heap.get? b = some o := by
      intro b o nb e
      rcases B.kinds b with z | z | ⟨z1, _, z⟩
      · exact un.keep b o e z (by intro m; cases m) (by intro m; cases m)
      · exact absurd z nb
      · have e1 := (hok b _ z).1
        have e2 := (hok' b _ (un.frzs b _ _ z)).1
        rw [e] at e1
        cases e1
        exact e2
    have more : ∀ p ∈ tb, ∃ us : Array Value, s'.heap.get? p.2 = some { cls := .none, data := .fields us } := by
      intro p hp
      obtain ⟨us, z⟩ := un.tbls p.2 #[] (B.tabAt _ (List.mem_map.mpr ⟨p, hp, rfl⟩))
      exact ⟨_, hok' p.2 _ z⟩
    refine ⟨rfl, ⟨?_, ?_⟩, os, bare⟩
    · intro b o e
      by_cases m : b ∈ tb.map (·.2)
      · have isT := B.tabIs b m
        obtain ⟨p, hp, rfl⟩ := List.mem_map.mp m
        obtain ⟨us, hu⟩ := more p hp
        rw [isT] at e
        cases e
        refine .inr (.inl ⟨((cds p hp).tab isT).isCodeTable, rfl, #[], us, rfl, ?_⟩)
        rw [Array.empty_append]
        exact hu
      · exact .inl (stay b o m e)
    · intro b o e
      by_cases m : b ∈ tb.map (·.2)
      · obtain ⟨p, hp, rfl⟩ := List.mem_map.mp m
        obtain ⟨us, hu⟩ := more p hp
        exact ⟨_, hu⟩
      · exact ⟨o, stay b o m e⟩
/-- such a heap there is -/
theorem begin_ex (tabs : List Addr) (hT : ∀ b ∈ tabs, s1.heap.get? b = some { cls := .none, data := .fields #[] }) (nT : ∀ b ∈ tabs, K.lookup b = none) (KX : K.In s1.heap)
    (ha : s1.heap.get? a = some { cls := .type "list", data := .seq vs.toArray }) (hi : IntsAre vs ns) (hl : ns.length ≤ sizeLine) : ∃ H, Begin K s1.heap tabs a vs ns H ∧ HOk P w H s1.heap := by
  have na : a ∉ tabs := by
    intro m
    cases (hT a m).symm.trans ha
  by_cases hk : K.lookup a = none
  · let H : Hp := fun b => if b ∈ tabs then some (.tbl #[]) else if b = a then some (.frz { cls := .type "list", data := .seq vs.toArray } (.lst (ns.map V.int))) else none
    have atT : ∀ b ∈ tabs, H b = some (.tbl #[]) := fun b m => if_pos m
    have atA : H a = some (.frz { cls := .type "list", data := .seq vs.toArray } (.lst (ns.map V.int))) := (if_neg na).trans (if_pos rfl)
    have atN : ∀ b, b ∉ tabs → b ≠ a → H b = none := fun b m e => (if_neg m).trans (if_neg e)
    refine ⟨H, ⟨atT, hT, nT, .inl (.inr ⟨_, atA⟩), atN, fun _ => .inr ⟨hk, atA⟩⟩, ?_⟩
    intro b u z
    by_cases m : b ∈ tabs
    · cases (atT b m).symm.trans z
      exact hT b m
    · by_cases e : b = a
      · subst e
        cases atA.symm.trans z
        refine ⟨ha, ?_, vs, _, vals_ints hi, ha⟩
        rw [List.length_map]
        exact hl
      · cases (atN b m e).symm.trans z
  · obtain ⟨o, ho⟩ := Option.ne_none_iff_exists'.mp hk
    have e := KX a o ho
    rw [ha] at e
    cases e
    let H : Hp := fun b => if b ∈ tabs then some (.tbl #[]) else none
    have atT : ∀ b ∈ tabs, H b = some (.tbl #[]) := fun b m => if_pos m
    have atN : ∀ b, b ∉ tabs → H b = none := fun b m => if_neg m
    refine ⟨H, ⟨atT, hT, nT, .inr ⟨_, vs.toArray, _, ho, rfl, rfl, rfl, ?_, ?_⟩, fun b m _ => atN b m, fun _ => .inl (atN a na)⟩, ?_⟩
    · rw [List.size_toArray, hi.length]
      exact hl
    · simpa using vals_ints hi
    · intro b u z
      by_cases m : b ∈ tabs
      · cases (atT b m).symm.trans z
        exact hT b m
      · cases (atN b m).symm.trans z
end
/-- all that the end of a law asks of its promise -/
def LawG (l : PySem.W.OpenLaw) (w : World) (K : PySem.W.Frag) (k n : Nat) (x : Str) (mg : Str → Option Value) (fa : Addr) (h : Heap) : Prop :=
  ∃ (fd : FuncData) (tb : List (Addr × Addr)) (sp : Sp), (∀ p ∈ tb, h.get? p.2 = some { cls := .none, data := .fields #[] }) ∧ (∀ p ∈ tb, K.lookup p.2 = none) ∧ (∀ p ∈ tb, PySem.W.CodeHd h p.1 p.2) ∧
    (∀ (s : Shared) (u : Value), BindsTo s fd ⟨[u], []⟩ [(x, u)]) ∧
    (∀ (H : Hp) (a : Addr) (ns : List Int), ns.length ≤ n → (∀ p ∈ tb, H p.2 = some (.tbl #[])) → SqL K H a (ns.map V.int) → sp [.ref a] H (fun v _ => v = .bl true) fun _ _ _ => False) ∧
    ∀ base : Heap, K.In base → base.Ns mainGlobals mg → (∀ p ∈ tb, GxR.TabB base mg p.1 p.2) → (∃ o, base.get? sysModules = some o) → FnG l.prog w K mg base CX0 k fa fd [x] sp
theorem walkG {l : PySem.W.OpenLaw} {n k : Nat} {q : Program} {loose : List Str} {XP : (Str → Option Value) → Heap → Prop} {YP : World → Heap → Prop} {d : DefRec} {K : Params → PySem.W.Frag} {x : Str}
    (hn : l.most = some n) (hn2 : n ≤ sizeLine) (hdf : d.params.defaults = []) (hr : Room k callerA) (hY : ∀ (w : World) (h : Heap), YP w h → (K w.params).In h)
    (noImp : importsNone q = true) (F : ∀ (w : World) (mg mb : Str → Option Value) (mean : ExcName → Option Value) (fa : Addr) (h : Heap), Top q (PySem.W.looseW q loose) mean mg mb h → YP w h → (K w.params).In h → h.Ns mainGlobals mg → mg d.name = some (.ref fa) → LawG l w (K w.params) k n x mg fa h) :
    PySem.W.WalkO q loose XP YP l.row.toRowW d [] (fun f vs => PySem.call f vs) := by
  apply Att.attach_call hn hdf
  intro w s0 s1 mg mb fa o pm cd doc a vs ns G Y ho hd hcd hmg hobj hints hlen hg
  have KX := hY w _ Y
  obtain ⟨fd, tb, sp, hT, nT, C, hb, hsp, hF⟩ := F w mg mb _ fa _ G.T Y KX G.T.g hmg
  have hT' : ∀ b ∈ tb.map (·.2), s1.heap.get? b = some { cls := .none, data := .fields #[] } := by
    intro b m
    obtain ⟨p, hp, rfl⟩ := List.mem_map.mp m
    exact hT p hp
  have nT' : ∀ b ∈ tb.map (·.2), (K w.params).lookup b = none := by
    intro b m
    obtain ⟨p, hp, rfl⟩ := List.mem_map.mp m
    exact nT p hp
  obtain ⟨H, B, hok⟩ := begin_ex (P := l.prog) (w := w) (tb.map (·.2)) hT' nT' KX hobj hints (Nat.le_trans hlen hn2)
  exact B.run hok KX G.T.g G.T.b G.T.builtins G.T.nolimit hg C G.T.bmain hobj hr (let ⟨mm, z, _⟩ := (G.T.seer noImp).mods; ⟨mm, z⟩) hF hb (hsp H a ns hlen (fun p hp => B.tabAt _ (List.mem_map.mpr ⟨p, hp, rfl⟩)) B.seq)
/-- a if t else b, both of the kind D: what follows is shown once -/
theorem ifx {b : Bool} {ta : TE} {Q : VK} {σ : L2.St} {H : Hp} {v : V} (D : V → Prop) (hA : b = true → (∀ v, D v → Q v H) → ta σ H Q) (hv : D v) (all : ∀ v, D v → Q v H) : if b = true then ta σ H Q else tC v σ H Q := by
  by_cases h : b = true
  · rw [if_pos h]
    exact hA h all
  · rw [if_neg h]
    exact all v hv
theorem at_of {α : Type} {xs : List α} {i : Int} (h0 : 0 ≤ i) (h1 : i < xs.length) : ∃ v, xs[i.toNat]? = some v ∧ atI xs i = some v := by
  have hj : i.toNat < xs.length := by omega
  refine ⟨xs[i.toNat], List.getElem?_eq_getElem hj, ?_⟩
  have e := atI_nat (List.getElem?_eq_getElem hj)
  rwa [Int.toNat_of_nonneg h0] at e
theorem b01 (b : Bool) : -(2 ^ 64) < (if b = true then (1 : Int) else 0) ∧ (if b = true then (1 : Int) else 0) < 2 ^ 64 := by cases b <;> decide
theorem b01_mul (b : Bool) {x B : Int} (h0 : 0 ≤ x) (h1 : x < B) : 0 ≤ x * (if b = true then (1 : Int) else 0) ∧ x * (if b = true then (1 : Int) else 0) < B := by
  cases b
  · rw [if_neg Bool.false_ne_true, Int.mul_zero]
    omega
  · rw [if_pos rfl, Int.mul_one]
    omega
/-- a comprehension without a test -/
theorem lc_yes {σ : L2.St} {H : Hp} {A B : Hp → Prop} (h : A H) : tYes σ H fun b H3 => if b = true then A H3 else B H3 := by
  show (if true = true then A H else B H)
  rw [if_pos rfl]
  exact h
theorem same_put {H H2 : Hp} {l : Addr} {o : HO} (u : Same H H2) (e : H l = none) : Same H (L2.upd H2 l o) := fun b x eb => by
  rw [upd_ne (ne_of_none eb e)]
  exact u b x eb
theorem same_upto {a : Addr} {H H1 H2 : Hp} (s : Same H H1) (u : Upto a H1 H2) (e : H a = none) : Same H H2 := fun b x eb => u b x (ne_of_none eb e) (s b x eb)
end Cu

namespace Cu
open PySem PySem.Spec PyProof.Rows L2
/-! ### texts -/
abbrev tl (x : Str) : List Nat := x.cps.toList
def mkS (l : List Nat) : Str := ⟨l.toArray⟩
theorem tl_mk (l : List Nat) : tl (mkS l) = l := List.toList_toArray
theorem tl_len (x : Str) : (tl x).length = x.length := Array.length_toList
theorem ext_t {x y : Str} (h : tl x = tl y) : x = y := PyProof.Rows.ext_toList h
theorem tl_app (x y : Str) : tl (x ++ y) = tl x ++ tl y := TL.tl_append x y
theorem cut_both (z : Str) (i j : Nat) : tl (cutS z (some (i : Int)) (some (j : Int))) = ((tl z).drop i).take (j - i) := by
  show ((z.cps.toList.drop (HT.sIx z.length 0 (some (i : Int)))).take (HT.sIx z.length z.length (some (j : Int)) - HT.sIx z.length 0 (some (i : Int)))).toArray.toList = (z.cps.toList.drop i).take (j - i)
  rw [HT.sIx_nat, HT.sIx_nat, List.toList_toArray]
  have hl : z.cps.toList.length = z.length := Array.length_toList
  by_cases h : i ≤ z.length
  · rw [Nat.min_eq_left h]
    by_cases h2 : j ≤ z.length
    · rw [Nat.min_eq_left h2]
    · rw [Nat.min_eq_right (by omega), List.take_of_length_le (by rw [List.length_drop]; omega), List.take_of_length_le (by rw [List.length_drop]; omega)]
  · rw [Nat.min_eq_right (show z.length ≤ i by omega), List.drop_eq_nil_of_le (show z.cps.toList.length ≤ z.length by omega), List.drop_eq_nil_of_le (show z.cps.toList.length ≤ i by omega), List.take_nil, List.take_nil]
theorem cut_left (z : Str) (j : Nat) : tl (cutS z none (some (j : Int))) = (tl z).take j := by
  show ((z.cps.toList.drop (HT.sIx z.length 0 none)).take (HT.sIx z.length z.length (some (j : Int)) - HT.sIx z.length 0 none)).toArray.toList = z.cps.toList.take j
  rw [HT.sIx_nat, HT.sIx_none, List.toList_toArray, List.drop_zero, Nat.sub_zero]
  have hl : z.cps.toList.length = z.length := Array.length_toList
  by_cases h2 : j ≤ z.length
  · rw [Nat.min_eq_left h2]
  · rw [Nat.min_eq_right (by omega), List.take_of_length_le (by omega), List.take_of_length_le (by omega)]
theorem cut_right (z : Str) (i : Nat) : tl (cutS z (some (i : Int)) none) = (tl z).drop i := by
  show ((z.cps.toList.drop (HT.sIx z.length 0 (some (i : Int)))).take (HT.sIx z.length z.length none - HT.sIx z.length 0 (some (i : Int)))).toArray.toList = z.cps.toList.drop i
  rw [HT.sIx_nat, HT.sIx_none, List.toList_toArray]
  have hl : z.cps.toList.length = z.length := Array.length_toList
  by_cases h : i ≤ z.length
  · rw [Nat.min_eq_left h, List.take_of_length_le (by rw [List.length_drop]; omega)]
  · rw [Nat.min_eq_right (by omega), List.drop_eq_nil_of_le (by omega), List.drop_eq_nil_of_le (by omega), List.take_nil]
/-- all signs are ASCII -/
def Asc (z : Str) : Prop := ∀ c ∈ tl z, c < 128
theorem asc_of {x : Str} {l : List Nat} (h : ∀ c ∈ tl x, c ∈ l) (k : ∀ c ∈ l, c < 128) : Asc x := fun c m => k c (h c m)
theorem joinL_nil : ∀ ys : List (List Nat), TL.joinL [] ys = ys.flatten
  | [] => rfl
  | [p] => by simp [TL.joinL]
  | p :: q :: r => by
    show p ++ ([] ++ TL.joinL [] (q :: r)) = _
    rw [joinL_nil (q :: r), List.nil_append, List.flatten_cons (l := p)]
/-- ''.join(ys) -/
theorem tl_join0 (ys : List Str) : tl (Txt.join (Str.ofString "") ys) = (ys.map tl).flatten := by
  have e := TL.tl_join (Str.ofString "") ys
  rw [← TL.join_eq] at e
  rw [show tl (Txt.join (Str.ofString "") ys) = TL.joinL (TL.tl (Str.ofString "")) (ys.map TL.tl) from e]
  exact joinL_nil _
/-! ### data that can be shown -/
structure Good (n k : Nat) (d : PyData) : Prop where
  len : d.shown.length ≤ n
  dep : d.depth ≤ k
  show_ : d.showable = true
  dict : d.hasDict = false
theorem Good.mono {n k n' k' : Nat} {d : PyData} (g : Good n k d) (hn : n ≤ n') (hk : k ≤ k') : Good n' k' d := ⟨Nat.le_trans g.len hn, Nat.le_trans g.dep hk, g.show_, g.dict⟩
theorem good_none {n k : Nat} (h : 4 ≤ n) : Good n k .none := ⟨Nat.le_trans (by decide +kernel) h, by simp [PyData.depth], by simp [PyData.showable], by simp [PyData.hasDict]⟩
theorem good_bool {n k : Nat} (b : Bool) (h : 5 ≤ n) : Good n k (.bool b) := ⟨Nat.le_trans (by cases b <;> decide +kernel) h, by simp [PyData.depth], by simp [PyData.showable], by simp [PyData.hasDict]⟩
theorem good_int {n k : Nat} {i : Int} (h : i.natAbs.log2 < 1920) (hn : 2000 ≤ n) : Good n k (.int i) := by
  refine ⟨?_, by simp [PyData.depth], by simp [PyData.showable, h], by simp [PyData.hasDict]⟩
  have e := int_text_length_le (k := 1920) (by decide) h
  simp only [PyData.shown]
  rw [PySem.ofString_length]
  omega
theorem good_str {n k : Nat} {z : Str} (h : Asc z) (hn : 10 * z.length + 2 ≤ n) : Good n k (.str z) := by
  refine ⟨?_, by simp [PyData.depth], by simp [PyData.showable], by simp [PyData.hasDict]⟩
  simp only [PyData.shown]
  exact Nat.le_trans (StrLaws.reprText_len z fun c m => Nat.lt_trans (h c m) (by decide)) hn
theorem piled_le {n : Nat} : ∀ ds : List PyData, (∀ d ∈ ds, d.shown.length ≤ n) → piled (PyData.shownAll ds) ≤ (n + 2) * ds.length
  | [], _ => by simp [PyData.shownAll, piled]
  | d :: r, h => by
    have h1 := h d List.mem_cons_self
    have h2 := piled_le r fun z m => h z (List.mem_cons_of_mem _ m)
    simp only [PyData.shownAll]
    rw [piled_cons, List.length_cons, Nat.mul_succ]
    omega
theorem list_text (ts : List Str) : (listText ts).length ≤ piled ts + 2 := by
  cases ts with
  | nil => decide +kernel
  | cons t r =>
    have e := textFrom_length_pos r 1 (("[" : Str) ++ (if (0 : Nat) > 0 then ", " else "" : String) ++ t) (by decide)
    have e2 : (("[" : Str) ++ (if (0 : Nat) > 0 then ", " else "" : String) ++ t).length = 1 + t.length := by
      rw [strLen_append, strLen_append]
      rfl
    show (textFrom 1 _ r ++ Str.ofString "]").length ≤ _
    rw [strLen_append, e, e2, piled_cons]
    have e3 : (Str.ofString "]").length = 1 := rfl
    omega
theorem all_of {n k : Nat} : ∀ ds : List PyData, (∀ d ∈ ds, Good n k d) → PyData.depthAll ds ≤ k ∧ PyData.showableAll ds = true ∧ PyData.hasDictAll ds = false
  | [], _ => by simp [PyData.depthAll, PyData.showableAll, PyData.hasDictAll]
  | d :: r, h => by
    obtain ⟨h1, h2, h3⟩ := all_of r fun z m => h z (List.mem_cons_of_mem _ m)
    have g := h d List.mem_cons_self
    have g2 := g.dep
    simp only [PyData.depthAll, PyData.showableAll, PyData.hasDictAll, g.show_, g.dict, h2, h3, Bool.and_self, Bool.or_self, and_self, and_true]
    omega
theorem good_list {n k m : Nat} {ds : List PyData} (h : ∀ d ∈ ds, Good n k d) (hm : (n + 2) * ds.length + 2 ≤ m) : Good m (k + 1) (.list ds) := by
  obtain ⟨h1, h2, h3⟩ := all_of ds h
  have p := piled_le ds fun d z => (h d z).len
  have t := list_text (PyData.shownAll ds)
  refine ⟨?_, ?_, ?_, ?_⟩
  · simp only [PyData.shown]
    omega
  · simp only [PyData.depth]
    omega
  · simp only [PyData.showable]
    exact h2
  · simp only [PyData.hasDict]
    exact h3
theorem good_tup {n k m : Nat} {ds : List PyData} (h : ∀ d ∈ ds, Good n k d) (hm : (n + 2) * ds.length + 2 ≤ m) : Good m (k + 1) (.tuple ds) := by
  obtain ⟨h1, h2, h3⟩ := all_of ds h
  have p := piled_le ds fun d z => (h d z).len
  have t := fmt_text (PyData.shownAll ds)
  refine ⟨?_, ?_, ?_, ?_⟩
  · simp only [PyData.shown]
    omega
  · simp only [PyData.depth]
    omega
  · simp only [PyData.showable]
    exact h2
  · simp only [PyData.hasDict]
    exact h3
theorem Good.shw {n k : Nat} {d : PyData} (g : Good n k d) (hn : n ≤ 16000000 := by decide) (hk : k ≤ 60 := by decide) : Shw d := ⟨g.show_, g.dict, Nat.le_trans g.dep hk, Nat.le_trans (Nat.le_trans g.len hn) (by decide)⟩
end Cu

namespace Cu
open PySem PySem.Spec PyProof.Rows L2
/-! ### generator expressions whose element changes nothing -/
/-- what xv gives when it is walked from the state s1: n items, the i-th as Pf says; its walk leans on no table -/
def Src (prog : Program) (w : World) (P : Addr) (s1 : Shared) (xv : Value) (n : Nat) (Pf : Nat → Value → Prop) : Prop :=
  ∀ (A : Around) (E : Value → Shared → Prop) (Q : Value → Shared → Prop),
    (∀ (o : Obj) (fp : List Addr) (go : Nat → Heap → Prop), (∀ A' : Around, A'.handled = none → Walks prog w A' s1.heap.objs.size fp [s1.heap.objs.size] n Pf go) → go 0 (s1.heap.push o) → (∀ b ∈ fp, b ≤ s1.heap.objs.size ∧ b ≠ P) →
      Q (.ref s1.heap.objs.size) { s1 with heap := s1.heap.push o }) → A.handled = none → wpAny (model prog w) A (pyIter xv) Q E s1
theorem src_str {prog : Program} {w : World} {P : Addr} {s1 : Shared} {a : Str} {t : Tok} (hP : P < s1.heap.objs.size) : Src prog w P s1 (.str a t) a.cps.size (SignAt a) := by
  intro A E Q h hh
  apply wpAny_pyIter_str
  intro o go W st
  apply h o _ go W st
  intro b hb
  rcases List.mem_cons.mp hb with rfl | z
  · exact ⟨Nat.le_refl _, fun e => Nat.lt_irrefl _ (e ▸ hP)⟩
  · cases z
/-- the element, evaluated in the generator's own frame: it changes nothing and gives what F says -/
def Calm (X : Cx) (P : Addr) (scope : Scope) (x : Str) (elt : Expr) (s1 : Shared) (Pf F : Nat → Value → Prop) : Prop :=
  ∀ (cenv : Env) (A' : Around) (E' : Value → Shared → Prop) (i : Nat) (v : Value) (s2 : Shared) (m2 : Str → Option Value), cenv.scope = scope → cenv.globals = X.env.globals → cenv.builtins = builtinsNs → cenv.cells = cloFrom X.env.cells scope.names [] →
    A'.handled = none → Pf i v → s2.heap.Ns cenv.locals m2 → m2 x = some v → (∀ b u, b ≠ P → s1.heap.get? b = some u → s2.heap.get? b = some u) →
    wpAny (model X.prog X.w) A' (eval elt cenv) (fun y s3 => F i y ∧ Keeps s2 s3) E' s2
/-- the generator g is ready to be walked -/
def Set_ (X : Cx) (pins : List (Addr × Obj)) (σ : L2.St) (H1 : Hp) (P : Addr) (n : Nat) (F : Nat → Value → Prop) (g : Addr) (s5 : Shared) : Prop :=
  ∃ (fp wr : List Addr) (G : Array GenState → Array GenState → Prop) (go : Nat → Shared → Prop), WalksS X.prog X.w X.A.in1 g fp wr G n F go ∧ go 0 s5 ∧
    ∀ s', Moved wr G s5 s' → ∃ H2, GxR.Tabbed P H1 H2 ∧ Inv X pins σ H2 s'
theorem walksS_imp {prog : Program} {w : World} {A : Around} {I : Addr} {fp wr : List Addr} {G : Array GenState → Array GenState → Prop} {n : Nat} {F F' : Nat → Value → Prop} {go : Nat → Shared → Prop} (W : WalksS prog w A I fp wr G n F go) (h : ∀ j y, F j y → F' j y) :
    WalksS prog w A I fp wr G n F' go where
  sub := W.sub
  grefl := W.grefl
  gtrans := W.gtrans
  frame := W.frame
  item := fun i s Q E hi st q => W.item i s Q E hi st fun v s' hv => q v s' (h i v hv)
  done := W.done
  self := W.self
section
variable {X : Cx} {pins : List (Addr × Obj)} {σ : L2.St} {H : Hp} {s : Shared}
theorem gen_make {c P : Addr} {elt iter : Expr} {x : Str} {px gpos : Pos} {scope : Scope} {te : TE} {k : Nat} {Q' : Value → Shared → Prop} {R : V → Hp → Prop}
    (hr : Room k X.A) (TB : GxR.TabB X.base X.mg c P) (hcode : X.env.code = .ref c) (S : GxR.GenS X.env scope x) (hi : PE X iter te) (hs : ∀ v, genFold iter X.env v = pure v) (I : Inv X pins σ H s)
    (h : te σ H fun v H1 => GxR.TabG H1 P ∧ R v H1)
    (src : ∀ v H1 s1 u, R v H1 → GxR.TabG H1 P → Inv X pins σ H1 s1 → RelV v u → P < s1.heap.objs.size → ∃ n Pf F, Src X.prog X.w P s1 u n Pf ∧ Calm X P scope x elt s1 Pf F ∧ ∀ g s5, Set_ X pins σ H1 P n F g s5 → Q' (.ref g) s5) :
    wpAny (model X.prog X.w) X.A (eval (.GeneratorExp elt [⟨.Name x px, iter, [], 0⟩] scope gpos) X.env) Q' X.xe s := by
  have dp : X.A.depth < recursionLimit := by
    have := hr.dp
    omega
  apply wpAny_GeneratorExp_walksQ hr.hd S.co (closure_ok S.free) S.cell S.dot S.loc S.kind dp _ hs
  refine thn (hi.run pins s σ H _ I h) ?_
  rintro xv s1 ⟨v, H1, I1, r1, tab, hR⟩
  obtain ⟨ps, hP, tr⟩ := id tab
  have isP : s1.heap.get? P = some { cls := .none, data := .fields ps } := I1.hok P _ hP
  have ltP : P < s1.heap.objs.size := Heap.lt_size isP
  obtain ⟨n, Pf, F, sc, calm, fin⟩ := src v H1 s1 xv hR tab I1 r1 ltP
  apply sc _ _ _ _ hr.hd
  intro o fp go W st hfp
  have isP2 : (s1.heap.push o).get? P = some { cls := .none, data := .fields ps } := Heap.get?_push_of_some _ isP
  have cd : PySem.W.CodeHd (s1.heap.push o) c P := TB.code.keeps fun b u e => Heap.get?_push_of_some _ (I1.bk b u e)
  have lim2 := I1.nolimit.push o
  refine And.intro lim2 ?_
  -- behind the making of the code object
  have rest : ∀ (code : Value) (h3 : Heap) (tk : Nat) (qs : Array Value), Heap.ExtBut P (s1.heap.push o) h3 → (s1.heap.push o).objs.size ≤ h3.objs.size → h3.get? P = some { cls := .none, data := .fields qs } → (∃ more, qs = ps ++ more) → TriplesOk qs.toList →
      wpAny (model X.prog X.w) X.A (builtinsFor X.env.globals X.env.builtins) (fun bi s4 =>
        ∃ it fp wr n₀ Pf St₀ pz F, Value.ref s1.heap.objs.size = .ref it ∧ (∀ A' : Around, A'.handled = none → Walks X.prog X.w A' it fp wr n₀ Pf St₀) ∧ St₀ 0 s4.heap ∧ (∀ b ∈ fp, b < s4.heap.objs.size) ∧ s4.heap.NoLimit ∧ cStatics ∉ wr ∧
          (∀ href : Heap, (∀ b o, s4.heap.get? b = some o → href.get? b = some o) → QuietGen X.prog X.w (genEnv scope (cloFrom X.env.cells scope.names []) s4.heap.objs.size code bi X.env) x [] elt (List.range s4.heap.objs.size) wr Pf pz F href) ∧
          (∀ a h₅ tk gs, gs.bare = true → s4.heap.objs.size < a → h₅.objs.size = a + 1 → (∀ b o, s4.heap.get? b = some o → h₅.get? b = some o) →
            WalksS X.prog X.w X.A.in4 a (a :: s4.heap.objs.size :: List.range s4.heap.objs.size) (s4.heap.objs.size :: wr) (GenOnlyQ s4.gens.size) (passing pz n₀ 0).length
              (fun j y => ∃ i, (passing pz n₀ 0)[j]? = some i ∧ F i y) (GenAt X.prog X.w X.A.in4 a s4.gens.size s4.heap.objs.size (List.range s4.heap.objs.size) wr pz n₀ F) →
            GenAt X.prog X.w X.A.in4 a s4.gens.size s4.heap.objs.size (List.range s4.heap.objs.size) wr pz n₀ F 0 { s4 with gens := s4.gens.push gs, toks := tk, heap := h₅ } →
            Q' (.ref a) { s4 with gens := s4.gens.push gs, toks := tk, heap := h₅ })) X.xe { s1 with heap := h3, toks := tk } := by
    intro code h3 tk qs ex size isP3 grown tr3
    obtain ⟨bm, ob, b1, b2, b3, b4, b5, b6, b7, b8⟩ := TB.bm
    have old3 : ∀ b u, b ≠ P → s1.heap.get? b = some u → h3.get? b = some u := fun b u nb e => ex b u nb (Heap.get?_push_of_some _ e)
    have itlt : s1.heap.objs.size < h3.objs.size := by
      have q : (s1.heap.push o).objs.size = s1.heap.objs.size + 1 := Heap.size_push ..
      omega
    obtain ⟨mc, nsc, _⟩ := id I1.nolimit
    have ltc : cStatics < s1.heap.objs.size := nsc.lt
    have ncP : cStatics ≠ P := by
      intro e
      obtain ⟨o', es, ep, ho, hd, _⟩ := nsc
      rw [e, isP] at ho
      cases ho
      cases hd
    have gl : h3.Ns X.env.globals X.mg := by
      rw [I1.ok.glob]
      exact ((I1.mod.glob.keeps I1.bk).push o).extBut ex TB.gP
    apply wpAny_builtinsFor gl b1 b2 (old3 _ _ b4 (I1.bk _ _ b5)) b6 b7 b8
    refine ⟨s1.heap.objs.size, fp, [s1.heap.objs.size], n, Pf, go, (fun _ => true), F, rfl, W, ?_, ?_, lim2.extBut ex ncP, ?_, ?_, ?_⟩
    · exact (W X.A hr.hd).frame _ _ _ st fun b hb u e => ex b u (hfp b hb).2 e
    · intro b hb
      exact Nat.lt_of_le_of_lt (hfp b hb).1 itlt
    · intro z
      rcases List.mem_cons.mp z with z | z
      · exact Nat.ne_of_lt ltc z
      · cases z
    · intro href kept
      constructor
      · intro A' E' i v s2 m2 hA hPv hn hm hk
        simp only [List.forIn_nil]
        exact wpAny_pure ⟨rfl, GxR.keeps_refl _⟩
      · intro A' E' i v s2 m2 hA hPv hp hn hm hk
        refine calm _ A' E' i v s2 m2 rfl rfl rfl rfl hA hPv hn hm ?_
        intro b u nb e
        have l1 := Heap.lt_size e
        refine hk b (List.mem_range.mpr (Nat.lt_trans l1 itlt)) ?_ u (kept b u (old3 b u nb e))
        intro z
        rcases List.mem_cons.mp z with z | z
        · exact Nat.ne_of_lt l1 z
        · cases z
    · intro g h5 tk5 gs bare lt5 sz5 keep5 W5 at5
      simp only [GxR.passing_true, List.length_range] at W5
      refine fin g _ ⟨_, _, _, _, walksS_imp W5.in4_1 ?_, at5, ?_⟩
      · rintro j y ⟨i, hj, hF⟩
        obtain ⟨hlt, ej⟩ := List.getElem?_eq_some_iff.mp hj
        rw [List.getElem_range] at ej
        rw [ej]
        exact hF
      · intro s' mv
        obtain ⟨more, em⟩ := grown
        have out : ∀ b u, s1.heap.get? b = some u → b ∉ h3.objs.size :: [s1.heap.objs.size] := by
          intro b u e hb
          have l1 : b < s1.heap.objs.size := Heap.lt_size e
          rcases List.mem_cons.mp hb with z | z
          · exact Nat.lt_irrefl _ (Nat.lt_trans (z ▸ l1 : (h3.objs.size : Nat) < s1.heap.objs.size) itlt)
          · rcases List.mem_cons.mp z with z | z
            · exact Nat.ne_of_lt l1 z
            · cases z
        have other : ∀ b u, b ≠ P → s1.heap.get? b = some u → s'.heap.get? b = some u := fun b u nb e => mv.heap b u (out b u e) (keep5 b u (old3 b u nb e))
        have tabNow : s'.heap.get? P = some { cls := .none, data := .fields (ps ++ more) } := by
          rw [← em]
          exact mv.heap P _ (out P _ isP) (keep5 P _ isP3)
        have J := GxR.inv_tab (more := more) (h' := s'.heap) (g' := s'.gens) (d' := s'.drawn) (t' := s'.toks) I1 hP other tabNow (AllBare.movedS (I1.bare.push bare) mv)
        rw [GxR.sh_eta s1 s' mv.os] at J
        refine ⟨upd H1 P (.tbl (ps ++ more)), ⟨⟨ps ++ more, upd_same, ?_⟩, fun b nb => upd_ne nb⟩, J⟩
        rw [← em]
        exact tr3
  cases hit : codeAmong gpos ps.toList with
  | none =>
    apply wpAny_genexprCodeX hcode (cd.code isP2 tr) (cd.tab isP2) hit
    intro c' h' tk ex ge lt co' _ tab' _
    obtain ⟨o1, vs, f1, tf, fl, tg, inF, tx, tt, op, _, _, _, _, _, _, _, _, _, tr', _⟩ := co'
    exact rest _ h' tk _ ex (Nat.le_trans ge (Nat.le_of_lt lt)) tab'.2 ⟨_, rfl⟩ tr'
  | some cv =>
    apply wpAny_genexprCode_hit hcode (cd.code isP2 tr) hit
    exact rest cv (s1.heap.push o) s1.toks ps (Heap.ExtBut.refl _ _) (Nat.le_refl _) isP2 ⟨#[], by simp⟩ tr
/-- all(test for x in iter): the test of the i-th item is tr i -/
def tAllG (P : Addr) (te : TE) (R : V → Hp → Nat → (Nat → Bool) → Prop) : TE := fun σ H Q => te σ H fun v H1 => GxR.TabG H1 P ∧ ∃ n tr, R v H1 n tr ∧ ∀ H2, GxR.Tabbed P H1 H2 → Q (.bl ((List.range n).all tr)) H2
/-- what a rule for all(..) asks of the walked thing and the element -/
def GenR (X : Cx) (P : Addr) (scope : Scope) (x : Str) (elt : Expr) (R : V → Hp → Nat → (Nat → Bool) → Prop) : Prop :=
  ∀ pins σ v H1 s1 u n tr, R v H1 n tr → GxR.TabG H1 P → Inv X pins σ H1 s1 → RelV v u → P < s1.heap.objs.size → ∃ Pf F, Src X.prog X.w P s1 u n Pf ∧ Calm X P scope x elt s1 Pf F ∧ TruthOf X.prog X.w X.A.in1 F tr
theorem pe_allG {c P : Addr} {elt iter : Expr} {x : Str} {px p pos gpos : Pos} {scope : Scope} {te : TE} {k : Nat} {R : V → Hp → Nat → (Nat → Bool) → Prop}
    (hr : Room k X.A) (hg : Gl X "all") (hm : X.mg "all" = none) (TB : GxR.TabB X.base X.mg c P) (hcode : X.env.code = .ref c) (S : GxR.GenS X.env scope x) (hi : PE X iter te) (rule : GenR X P scope x elt R)
    (hs : ∀ v, genFold iter X.env v = pure v := by intro _; rfl)
    (he : starEach [.GeneratorExp elt [⟨.Name x px, iter, [], 0⟩] scope gpos] X.env = (false, eval (.GeneratorExp elt [⟨.Name x px, iter, [], 0⟩] scope gpos) X.env) :: starEach [] X.env := by rfl) :
    PE X (.Call (.Name "all" p) [.GeneratorExp elt [⟨.Name x px, iter, [], 0⟩] scope gpos] [] pos) (tAllG P te R) := by
  constructor
  intro pins s σ H Q I h
  apply wpAny_Call_Name_kw
  apply ld_blt I hg hm (show bootBuiltins "all" = some (.builtin "all") by decide +kernel)
  apply PyProof.Rows.callWith_builtin1 _ he (by rfl)
  rw [he]
  show wpAny _ _ (spliced ((false, eval (.GeneratorExp elt [⟨.Name x px, iter, [], 0⟩] scope gpos) X.env) :: backTo pos (starEach [] X.env))) _ _ s
  apply Calls.spliced_cons
  apply gen_make (R := fun v H1 => ∃ n tr, R v H1 n tr ∧ ∀ H2, GxR.Tabbed P H1 H2 → Q (.bl ((List.range n).all tr)) H2) hr TB hcode S hi hs I h
  rintro v H1 s1 u ⟨n, tr, hR, q⟩ tab I1 ru ltP
  obtain ⟨Pf, F, sc, calm, tru⟩ := rule pins σ v H1 s1 u n tr hR tab I1 ru ltP
  refine ⟨n, Pf, F, sc, calm, ?_⟩
  rintro g s5 ⟨fp, wr, G, go, W, st, inv⟩
  apply Calls.spliced_nil
  apply call_all_walkS
  apply W.self 0 _ _ _ st
  refine ⟨g, fp, wr, G, n, F, go, tr, rfl, W, st, tru, ?_⟩
  intro s' mv
  obtain ⟨H2, tb, J⟩ := inv s' mv
  exact ⟨.bl _, H2, J, rfl, q H2 tb⟩
end
end Cu

namespace Cu
open PySem PySem.Spec PyProof.Rows L2
/-! ### data with dicts -/
def keyD : Key → PyData
  | .inl i => .int i
  | .inr x => .str x
mutual
inductive Dx (H : Hp) : V → PyData → Prop
  | non : Dx H .non .none
  | bl (b : Bool) : Dx H (.bl b) (.bool b)
  | int (i : Int) : Dx H (.int i) (.int i)
  | str (x : Str) : Dx H (.str x) (.str x)
  | lst {a : Addr} {xs : List V} {ds : List PyData} (e : H a = some (.lst xs)) (k : DxAll H xs ds) : Dx H (.ref a) (.list ds)
  | tup {a : Addr} {xs : List V} {ds : List PyData} (e : H a = some (.tup xs)) (k : DxAll H xs ds) : Dx H (.ref a) (.tuple ds)
  | dct {a : Addr} {kvs : List (Key × V)} {ds : List (PyData × PyData)} (e : H a = some (.dK kvs)) (k : DxKv H kvs ds) : Dx H (.ref a) (.dict ds)
inductive DxAll (H : Hp) : List V → List PyData → Prop
  | nil : DxAll H [] []
  | cons {v : V} {vs : List V} {d : PyData} {ds : List PyData} (h : Dx H v d) (t : DxAll H vs ds) : DxAll H (v :: vs) (d :: ds)
inductive DxKv (H : Hp) : List (Key × V) → List (PyData × PyData) → Prop
  | nil : DxKv H [] []
  | cons {k : Key} {v : V} {r : List (Key × V)} {d : PyData} {ds : List (PyData × PyData)} (h : Dx H v d) (t : DxKv H r ds) : DxKv H ((k, v) :: r) ((keyD k, d) :: ds)
end
/-- what the relation leans on stays -/
def Stays (H H' : Hp) : Prop := ∀ b o, H b = some o → (∃ xs, o = .lst xs) ∨ (∃ xs, o = .tup xs) ∨ (∃ kvs, o = .dK kvs) → H' b = some o
mutual
theorem Dx.stays {H H' : Hp} (s : Stays H H') : ∀ (d : PyData) (v : V), Dx H v d → Dx H' v d
  | .none, _, h => by
    cases h
    exact .non
  | .bool b, _, h => by
    cases h
    exact .bl b
  | .int i, _, h => by
    cases h
    exact .int i
  | .str x, _, h => by
    cases h
    exact .str x
  | .list ds, _, h => by
    cases h with
    | lst e k => exact .lst (s _ _ e (.inl ⟨_, rfl⟩)) (DxAll.stays s ds _ k)
  | .tuple ds, _, h => by
    cases h with
    | tup e k => exact .tup (s _ _ e (.inr (.inl ⟨_, rfl⟩))) (DxAll.stays s ds _ k)
  | .dict ds, _, h => by
    cases h with
    | dct e k => exact .dct (s _ _ e (.inr (.inr ⟨_, rfl⟩))) (DxKv.stays s ds _ k)
theorem DxAll.stays {H H' : Hp} (s : Stays H H') : ∀ (ds : List PyData) (vs : List V), DxAll H vs ds → DxAll H' vs ds
  | [], _, h => by
    cases h
    exact .nil
  | d :: ds, _, h => by
    cases h with
    | cons h t => exact .cons (Dx.stays s d _ h) (DxAll.stays s ds _ t)
theorem DxKv.stays {H H' : Hp} (s : Stays H H') : ∀ (ds : List (PyData × PyData)) (vs : List (Key × V)), DxKv H vs ds → DxKv H' vs ds
  | [], _, h => by
    cases h
    exact .nil
  | (_, d) :: ds, _, h => by
    cases h with
    | cons h t => exact .cons (Dx.stays s d _ h) (DxKv.stays s ds _ t)
end
section
variable {X : Cx} {pins : List (Addr × Obj)} {σ : L2.St} {H : Hp} {s : Shared}
theorem not_sys (sy : ∃ o, X.base.get? sysModules = some o) (I : Inv X pins σ H s) {a : Addr} {o : HO} (e : H a = some o) : sysModules ≠ a := by
  intro z
  obtain ⟨ob, eb⟩ := sy
  have n := (I.bs _ _ eb).2
  rw [z, e] at n
  cases n
theorem keys_read {h : Heap} : ∀ (ds : List (PyData × PyData)) {es : List DictEntry} {kvs : List (Key × V)} {vs : List (Key × Value)}, Pairs (mixKind X.prog X.w) es vs → KV kvs vs → DxKv H kvs ds → ReadsAll h (es.map (·.key)) (ds.map (·.1)) []
  | [], _, _, _, p, r, d => by
    cases d
    cases r
    cases p
    exact .nil
  | (_, _) :: ds, _, _, _, p, r, d => by
    cases d with
    | @cons k _ _ _ _ h6 h7 =>
      cases r with
      | cons h4 h5 =>
        cases p with
        | @cons e _ _ _ h1 h2 h3 =>
          have q := keys_read (h := h) ds h3 h5 h7
          have ek : keyIs k e.key = true := by
            have z := h1
            rw [← h4.1] at z
            exact z
          rcases keyIs_shape ek with ⟨i, t, rfl, e2⟩ | ⟨x, t, rfl, e2⟩
          · rw [List.map_cons, List.map_cons, e2]
            exact ReadsAll.cons (as := []) (Reads.int i t) q
          · rw [List.map_cons, List.map_cons, e2]
            exact ReadsAll.cons (as := []) (Reads.str x t) q
mutual
theorem Dx.reads (sy : ∃ o, X.base.get? sysModules = some o) (I : Inv X pins σ H s) : ∀ (d : PyData) (v : V) (u : Value), Dx H v d → RelV v u → ∃ as, Reads s.heap u d as ∧ sysModules ∉ as
  | .none, _, _, h, r => by
    cases h
    cases r
    exact ⟨_, Reads.none, fun z => (nomatch z)⟩
  | .bool b, _, _, h, r => by
    cases h
    cases r
    exact ⟨_, Reads.bool b, fun z => (nomatch z)⟩
  | .int i, _, _, h, r => by
    cases h
    obtain ⟨t, rfl⟩ := r
    exact ⟨_, Reads.int i t, fun z => (nomatch z)⟩
  | .str x, _, _, h, r => by
    cases h
    obtain ⟨t, rfl⟩ := r
    exact ⟨_, Reads.str x t, fun z => (nomatch z)⟩
  | .list ds, _, _, h, r => by
    cases h with
    | lst e k =>
      cases r
      obtain ⟨_, its, n, rv, eo⟩ := I.hok _ _ e
      obtain ⟨as, hr, hn⟩ := DxAll.reads sy I ds _ its k rv
      refine ⟨_, Reads.list eo rfl rfl (by rw [List.toList_toArray]; exact hr), fun z => ?_⟩
      rcases List.mem_cons.mp z with z | z
      · exact not_sys sy I e z
      · exact hn z
  | .tuple ds, _, _, h, r => by
    cases h with
    | tup e k =>
      cases r
      obtain ⟨_, its, rv, o, ho, hc, n, hd⟩ := I.hok _ _ e
      obtain ⟨as, hr, hn⟩ := DxAll.reads sy I ds _ its k rv
      exact ⟨_, Reads.tuple ho hc hd (by rw [List.toList_toArray]; exact hr), hn⟩
  | .dict ds, _, _, h, r => by
    cases h with
    | dct e k =>
      cases r
      obtain ⟨_, _, vs, kv, o, es, ep, ho, hx, hd, hk, hp, _⟩ := I.hok _ _ e
      obtain ⟨bs, hr, hn⟩ := DxKv.reads sy I ds _ vs es.toList k kv hp
      refine ⟨_, Reads.dict (as := []) ho hx.1 hd (keys_read ds hp kv k) hr, fun z => ?_⟩
      rcases List.mem_append.mp z with z | z
      · rcases List.mem_cons.mp z with z | z
        · exact not_sys sy I e z
        · cases z
      · exact hn z
theorem DxAll.reads (sy : ∃ o, X.base.get? sysModules = some o) (I : Inv X pins σ H s) : ∀ (ds : List PyData) (vs : List V) (us : List Value), DxAll H vs ds → Vals vs us → ∃ as, ReadsAll s.heap us ds as ∧ sysModules ∉ as
  | [], _, _, h, r => by
    cases h
    cases r
    exact ⟨_, ReadsAll.nil, fun z => (nomatch z)⟩
  | d :: ds, _, _, h, r => by
    cases h with
    | cons h1 h2 =>
      cases r with
      | cons r1 r2 =>
        obtain ⟨as, q1, n1⟩ := Dx.reads sy I d _ _ h1 r1
        obtain ⟨bs, q2, n2⟩ := DxAll.reads sy I ds _ _ h2 r2
        exact ⟨_, ReadsAll.cons q1 q2, fun z => (List.mem_append.mp z).elim n1 n2⟩
theorem DxKv.reads (sy : ∃ o, X.base.get? sysModules = some o) (I : Inv X pins σ H s) : ∀ (ds : List (PyData × PyData)) (kvs : List (Key × V)) (vs : List (Key × Value)) (es : List DictEntry), DxKv H kvs ds → KV kvs vs → Pairs (mixKind X.prog X.w) es vs →
    ∃ as, ReadsAll s.heap (es.map (·.val)) (ds.map (·.2)) as ∧ sysModules ∉ as
  | [], _, _, _, h, r, p => by
    cases h
    cases r
    cases p
    exact ⟨_, ReadsAll.nil, fun z => (nomatch z)⟩
  | (_, d) :: ds, _, _, _, h, r, p => by
    cases h with
    | cons h1 h2 =>
      cases r with
      | cons r1 r2 =>
        cases p with
        | cons p1 p2 p3 =>
          obtain ⟨bs, q2, n2⟩ := DxKv.reads sy I ds _ _ _ h2 r2 p3
          obtain ⟨as, q1, n1⟩ := Dx.reads sy I d _ _ h1 r1.2
          refine ⟨_, ReadsAll.cons (as := as) ?_ q2, fun z => (List.mem_append.mp z).elim n1 n2⟩
          show Reads s.heap _ d as
          dsimp only
          rw [p2]
          exact q1
end
end
/-- data that repr can show, dicts too -/
structure Shx (d : PyData) : Prop where
  show_ : d.showable = true
  dep : d.depth ≤ 60
  len : d.shown.length ≤ sizeLine
def rReprX : List V → Hp → VK → Prop := fun xs H Q => ∃ x d, xs = [x] ∧ Dx H x d ∧ Shx d ∧ Q (.str d.shown) H
theorem call_reprX {X : Cx} (sy : ∃ o, X.base.get? sysModules = some o) (hg : X.A.guards = some []) (hu : X.A.units + 64 < cLine) : CallR X (.builtin "repr") rReprX := by
  intro pins s σ H xs us Q I r h
  obtain ⟨x, d, rfl, hd, ⟨hs, h6, hz⟩, q⟩ := h
  obtain ⟨u, rfl, ru⟩ := vals1 r
  obtain ⟨as, rd, ns⟩ := Dx.reads sy I d x u hd ru
  have fin : ∀ a, u = .ref a → wpAny (model X.prog X.w) X.A (call (.builtin "repr") [u]) (EP X pins σ Q) X.xe s := by
    rintro a rfl
    exact repr_of_reads' rd hs (fun _ => ns) hg (by omega) (fun _ _ e => e) (fun h' t tk k => ⟨.str _, H, I.kept k, ⟨t, rfl⟩, q⟩) hz
  cases hd with
  | non =>
    cases ru
    exact PySem.P.repr_of_none ⟨.str _, H, I.tok _, ⟨_, rfl⟩, q⟩
  | bl b =>
    cases ru
    cases b
    · exact PySem.P.repr_of_bool ⟨.str _, H, I.tok _, ⟨_, rfl⟩, q⟩
    · exact PySem.P.repr_of_bool ⟨.str _, H, I.tok _, ⟨_, rfl⟩, q⟩
  | int i =>
    obtain ⟨t, rfl⟩ := ru
    refine PySem.P.repr_of_int ?_ ⟨.str _, H, I.tok _, ⟨_, rfl⟩, q⟩
    exact of_decide_eq_true hs
  | str y =>
    obtain ⟨t, rfl⟩ := ru
    exact PySem.P.repr_of_str ⟨.str _, H, I.tok _, ⟨_, rfl⟩, q⟩ hz
  | lst _ _ => exact fin _ ru
  | tup _ _ => exact fin _ ru
  | dct _ _ => exact fin _ ru
/-- bounds of what is shown -/
structure Gx (n k : Nat) (d : PyData) : Prop where
  len : d.shown.length ≤ n
  dep : d.depth ≤ k
  show_ : d.showable = true
theorem Gx.shx {n k : Nat} {d : PyData} (g : Gx n k d) (hn : n ≤ 16000000 := by decide) (hk : k ≤ 60 := by decide) : Shx d := ⟨g.show_, Nat.le_trans g.dep hk, Nat.le_trans (Nat.le_trans g.len hn) (by decide)⟩
theorem Gx.mono {n k n' k' : Nat} {d : PyData} (g : Gx n k d) (hn : n ≤ n') (hk : k ≤ k') : Gx n' k' d := ⟨Nat.le_trans g.len hn, Nat.le_trans g.dep hk, g.show_⟩
theorem Good.gx {n k : Nat} {d : PyData} (g : Good n k d) : Gx n k d := ⟨g.len, g.dep, g.show_⟩
theorem gx_all {n k : Nat} : ∀ ds : List PyData, (∀ d ∈ ds, Gx n k d) → PyData.depthAll ds ≤ k ∧ PyData.showableAll ds = true
  | [], _ => by simp [PyData.depthAll, PyData.showableAll]
  | d :: r, h => by
    obtain ⟨h1, h2⟩ := gx_all r fun z m => h z (List.mem_cons_of_mem _ m)
    have g := h d List.mem_cons_self
    have g2 := g.dep
    simp only [PyData.depthAll, PyData.showableAll, g.show_, h2, Bool.and_self, and_true]
    omega
theorem gx_list {n k m : Nat} {ds : List PyData} (h : ∀ d ∈ ds, Gx n k d) (hm : (n + 2) * ds.length + 2 ≤ m) : Gx m (k + 1) (.list ds) := by
  obtain ⟨h1, h2⟩ := gx_all ds h
  have p := piled_le ds fun d z => (h d z).len
  have t := list_text (PyData.shownAll ds)
  refine ⟨?_, ?_, ?_⟩
  · simp only [PyData.shown]
    omega
  · simp only [PyData.depth]
    omega
  · simp only [PyData.showable]
    exact h2
theorem gx_tup {n k m : Nat} {ds : List PyData} (h : ∀ d ∈ ds, Gx n k d) (hm : (n + 2) * ds.length + 2 ≤ m) : Gx m (k + 1) (.tuple ds) := by
  obtain ⟨h1, h2⟩ := gx_all ds h
  have p := piled_le ds fun d z => (h d z).len
  have t := fmt_text (PyData.shownAll ds)
  refine ⟨?_, ?_, ?_⟩
  · simp only [PyData.shown]
    omega
  · simp only [PyData.depth]
    omega
  · simp only [PyData.showable]
    exact h2
/-! ### a def by its body, its code object known -/
theorem okC {P : Program} {w : World} {K : PySem.W.Frag} {mg : Str → Option Value} {base : Heap} {x qual : Str} {st : Stmt} {f c : Addr} {fd : FuncData} {N ps : List Str} {k : Nat} {sp : Sp} (F : Fun K x qual st f fd) (hc : fd.code = .ref c) (S : FnScope N ps (defScope st)) (len : ∀ vs H Q E, sp vs H Q E → vs.length = ps.length)
    (hbody : ∀ (A : Around) (outer : List Env) (s : Shared) (H : Hp) (vs : List V) (Q : VK) (E : XK), Room k (A.deeper (envOfC qual (defScope st) s.heap.objs.size f (.ref c))) → sp vs H Q E →
      ∃ t, PSs (cxOf CX0 P w K mg base N qual (defScope st) f (.ref c) A outer s H E).nox (defBody st) t ∧ t { nx := fun _ H' => Q .non H', rt := Q } (start N vs) H) : FnOk P w K mg base CX0 (k + 1) f fd ps sp := by
  obtain ⟨oc, od, kV, doc, pm, an, cdv, ct, osl, rfl, lk, hcd⟩ := F.ex
  have e : cdv = .ref c := hc
  subst e
  refine fn_of lk hcd S len ?_
  intro A outer s H vs Q E hr hsp
  obtain ⟨t, h, q⟩ := hbody A outer s H vs Q E hr hsp
  exact ⟨t, h.nox, q⟩
theorem code_of {K : PySem.W.Frag} {x : Str} {f c P : Addr} {oc : Value} {od : Option Addr} {fd : FuncData} {sl : Array (Option Value)} (a : PySem.W.nsIn K mainGlobals x = some (some (.ref f))) (l : K.lookup f = some ⟨oc, od, .func fd, sl⟩) (ht : PySem.W.tabIn K x = some (c, P)) : fd.code = .ref c := by
  unfold PySem.W.tabIn at ht
  rw [a] at ht
  dsimp only at ht
  rw [l] at ht
  dsimp only at ht
  split at ht
  · rename_i c' hc
    split at ht
    · split at ht
      · cases Option.some.inj ht
        exact hc
      · cases ht
    · cases ht
  · cases ht
theorem out_of_K {K : PySem.W.Frag} {h : Heap} {P : Addr} (X : K.In h) (nt : PySem.W.noTabs K = true) (e : h.get? P = some (PySem.W.tabObj #[])) : K.lookup P = none := by
  cases q : K.lookup P with
  | none => rfl
  | some o =>
    have e2 := X P o q
    rw [e] at e2
    cases e2
    have e3 := List.all_eq_true.mp nt _ (PySem.W.mem_of_lookupK q)
    exact absurd (show false = true from e3) Bool.false_ne_true
end Cu

namespace Cu
open PySem PySem.Spec PyProof.Rows L2
/-! ### all(test for x in text) -/
def RText (pb : Nat → Bool) : V → Hp → Nat → (Nat → Bool) → Prop := fun v _ n tr => ∃ a : Str, v = .str a ∧ n = a.cps.size ∧ tr = GxR.trF pb a.cps.toList
/-- what the generator's frame knows of the module -/
structure Around1 (X : Cx) (cenv : Env) (h : Heap) : Prop where
  gl : h.Ns cenv.globals X.mg
  bl : ∃ mb, h.Ns cenv.builtins mb ∧ ∀ x : Str, x ≠ "__name__" → mb x = bootBuiltins x
/-- the element is a test of the sign -/
def SignTest (X : Cx) (scope : Scope) (x : Str) (elt : Expr) (pb : Nat → Bool) : Prop :=
  ∀ (cenv : Env) (A' : Around) (E' : Value → Shared → Prop) (c : Nat) (t : Tok) (s2 : Shared) (m2 : Str → Option Value), cenv.scope = scope → A'.handled = none → Around1 X cenv s2.heap → s2.heap.Ns cenv.locals m2 → m2 x = some (.str ⟨#[c]⟩ t) →
    wpAny (model X.prog X.w) A' (eval elt cenv) (fun y s3 => y = .bool (pb c) ∧ Keeps s2 s3) E' s2
theorem genR_text {X : Cx} {P : Addr} {scope : Scope} {x : Str} {elt : Expr} {pb : Nat → Bool} (hel : SignTest X scope x elt pb) : GenR X P scope x elt (RText pb) := by
  rintro pins σ v H1 s1 u n tr ⟨a, rfl, rfl, rfl⟩ ⟨ps, hP, _⟩ I ru ltP
  obtain ⟨t, rfl⟩ := ru
  refine ⟨SignAt a, fun i y => ∃ c, a.cps[i]? = some c ∧ y = .bool (pb c), src_str ltP, ?_, ?_⟩
  · intro cenv A' E' i v s2 m2 e1 e2 e3 e4 hh hv hn hm keep
    obtain ⟨c, t, hc, rfl⟩ := hv
    have kb : ∀ b u, X.base.get? b = some u → s2.heap.get? b = some u := by
      intro b u e
      have q := I.bs b u e
      refine keep b u ?_ q.1
      intro z
      rw [z, hP] at q
      cases q.2
    have ar : Around1 X cenv s2.heap := by
      constructor
      · rw [e2, I.ok.glob]
        exact I.mod.glob.keeps kb
      · obtain ⟨mb, q1, q2⟩ := I.mod.blt
        rw [e3]
        exact ⟨mb, q1.keeps kb, q2⟩
    refine wpAny_mono (hel cenv A' E' c t s2 m2 e1 hh ar hn hm) ?_ (fun _ _ z => z)
    rintro y s3 ⟨rfl, k⟩
    exact ⟨⟨c, hc, rfl⟩, k⟩
  · rintro i y s2 Q E ⟨c, hc, rfl⟩ q
    have e : a.cps.toList[i]? = some c := by
      rw [Array.getElem?_toList]
      exact hc
    rw [GxR.trF_some e] at q
    exact wpAny_truthy_bool q
theorem text_all (a : Str) (pb : Nat → Bool) : (List.range a.cps.size).all (GxR.trF pb a.cps.toList) = (tl a).all pb := GxR.all_signs a pb
/-- lo <= x <= hi -/
def between (lo hi : Str) (c : Nat) : Bool := !decide ([c] < lo.cps.toList) && !decide (hi.cps.toList < [c])
theorem eval_between {X : Cx} {scope : Scope} {x lo hi : Str} {j1 j2 : Nat} {p1 p2 p3 p4 : Pos} {cenv : Env} {A' : Around} {E' : Value → Shared → Prop} {c : Nat} {t : Tok} {s2 : Shared} {m2 : Str → Option Value} {Q : Value → Shared → Prop}
    (hk : scope.kind = .function) (hl : scope.names.lookup x = some .local) (hd : (x == ("__debug__" : Str)) = false) (e1 : cenv.scope = scope) (hn : s2.heap.Ns cenv.locals m2) (hm : m2 x = some (.str ⟨#[c]⟩ t))
    (q : ∀ tk, Q (.bool (between lo hi c)) { s2 with toks := tk }) :
    wpAny (model X.prog X.w) A' (eval (.Compare (.Constant (.str lo) j1 p1) [.LtE, .LtE] [.Name x p2, .Constant (.str hi) j2 p3] p4) cenv) Q E' s2 := by
  refine Compare_chain ?_
  apply Calls.Constant_str
  apply chain_link
  refine wpAny_Name (wpAny_loadName_local (by rw [e1]; exact hk) (show cenv.scope.names.lookup x = some .local by rw [e1]; exact hl) hn hm ?_) hd
  apply PySem.P.le_str
  apply wpAny_truthy_bool
  by_cases h : [c] < lo.cps.toList
  · have e : (!decide ([c] < lo.cps.toList)) = false := by
      rw [decide_eq_true h]
      rfl
    show (if (!decide ([c] < lo.cps.toList)) = true then _ else Q (.bool (!decide ([c] < lo.cps.toList))) _)
    rw [e]
    have z := q (s2.toks + 1)
    unfold between at z
    rw [e, Bool.false_and] at z
    exact z
  · have e : (!decide ([c] < lo.cps.toList)) = true := by
      rw [decide_eq_false h]
      rfl
    show (if (!decide ([c] < lo.cps.toList)) = true then _ else Q (.bool (!decide ([c] < lo.cps.toList))) _)
    rw [e, if_pos rfl]
    apply chain_last
    apply Calls.Constant_str
    apply PySem.P.le_str
    have z := q (s2.toks + 1 + 1)
    unfold between at z
    rw [e, Bool.true_and] at z
    exact z
theorem test_between {X : Cx} {scope : Scope} {x lo hi : Str} {j1 j2 : Nat} {p1 p2 p3 p4 : Pos} (hk : scope.kind = .function) (hl : scope.names.lookup x = some .local) (hd : (x == ("__debug__" : Str)) = false := by decide) :
    SignTest X scope x (.Compare (.Constant (.str lo) j1 p1) [.LtE, .LtE] [.Name x p2, .Constant (.str hi) j2 p3] p4) (between lo hi) := by
  intro cenv A' E' c t s2 m2 e1 hh ar hn hm
  exact eval_between hk hl hd e1 hn hm fun tk => ⟨rfl, GxR.keeps_tok _ _⟩
/-- lo <= x <= hi and ord(x) != N -/
theorem test_between_ord {X : Cx} {scope : Scope} {x lo hi N : Str} {n : Int} {tn : Tok} {j1 j2 : Nat} {p1 p2 p3 p4 p5 p6 p7 p8 p9 p10 : Pos} (hk : scope.kind = .function) (hl : scope.names.lookup x = some .local) (ho : scope.names.lookup ("ord" : Str) = some .globalImplicit)
    (hN : scope.names.lookup N = some .globalImplicit) (mo : X.mg "ord" = none) (mN : X.mg N = some (.int n tn)) (hd : (x == ("__debug__" : Str)) = false := by decide) (hdN : (N == ("__debug__" : Str)) = false := by decide) :
    SignTest X scope x (.BoolOp .And [.Compare (.Constant (.str lo) j1 p1) [.LtE, .LtE] [.Name x p2, .Constant (.str hi) j2 p3] p4, .Compare (.Call (.Name "ord" p5) [.Name x p6] [] p7) [.NotEq] [.Name N p8] p9] p10) (fun c => between lo hi c && ((c : Int) != n)) := by
  intro cenv A' E' c t s2 m2 e1 hh ar hn hm
  have kf : cenv.scope.kind = .function := by rw [e1]; exact hk
  apply BoolOp_and
  apply eval_between hk hl hd e1 hn hm
  intro tk
  apply wpAny_truthy_bool
  obtain ⟨mb, hb, hbb⟩ := ar.bl
  cases hbt : between lo hi c with
  | false =>
    show (if false = true then _ else _)
    rw [if_neg Bool.false_ne_true]
    refine ⟨?_, GxR.keeps_tok _ _⟩
    show Value.bool false = Value.bool (between lo hi c && _)
    rw [hbt, Bool.false_and]
  | true =>
    show (if true = true then _ else _)
    rw [if_pos rfl]
    apply BoolOp_one
    refine wpAny_Compare1 ?_
    refine wpAny_Call_Name_kw ?_
    refine Calls.Name_function_global (s := { s2 with toks := tk }) kf (show cenv.scope.names.lookup ("ord" : Str) = some .globalImplicit by rw [e1]; exact ho) ?_
    refine Calls.loadGlobal_builtin (s := { s2 with toks := tk }) ar.gl mo hb ((hbb "ord" (by decide)).trans (show bootBuiltins "ord" = some (.builtin "ord") by decide +kernel)) ?_
    refine PyProof.Rows.callWith_builtin1 ?_ rfl rfl
    show wpAny _ _ (spliced ((false, eval (.Name x p6) cenv) :: backTo p7 (starEach [] cenv))) _ _ _
    refine Calls.spliced_cons ?_
    refine wpAny_Name (wpAny_loadName_local (s := { s2 with toks := tk }) kf (show cenv.scope.names.lookup x = some .local by rw [e1]; exact hl) hn hm ?_) hd
    refine Calls.spliced_nil ?_
    refine PySem.P.ord_of_char ?_
    refine Calls.Name_function_global (s := { s2 with toks := tk + 1 }) kf (show cenv.scope.names.lookup N = some .globalImplicit by rw [e1]; exact hN) ?_ hdN
    refine Calls.loadGlobal_global (s := { s2 with toks := tk + 1 }) ar.gl mN ?_
    refine PySem.P.ne_int ?_
    refine ⟨?_, GxR.keeps_tok _ _⟩
    show Value.bool ((c : Int) != n) = Value.bool (between lo hi c && _)
    rw [hbt, Bool.true_and]
theorem gen_scope {env : Env} {scope : Scope} {x : Str} (h1 : scope.kind = .function) (h2 : scope.isCoroutine = false) (h3 : ∀ y ∈ scope.names, y.2 ≠ .cell ∧ y.2 ≠ .free) (h4 : scope.names.lookup (".0" : Str) = some NameKind.local) (h5 : scope.names.lookup x = some .local) : GxR.GenS env scope x :=
  ⟨h1, h2, fun y m => (h3 y m).1, h4, h5, fun y m e => absurd e (h3 y m).2⟩
/-- a comprehension over a text -/
theorem lc_str {a : Str} {g : TG} {tt : TT} {te : TE} {vs : List Nat} {σ : L2.St} {H1 : Hp} {D : Addr} {Qd : Hp → Prop} (Pv : Nat → Hp → Prop) (h0 : Pv 0 (upd H1 D (.lst [])))
    (hs : ∀ i c H, (tl a)[i]? = some c → Pv i H → g (.str ⟨#[c]⟩) (wipe σ vs) H fun σ2 H2 => wipe σ2 vs = wipe σ vs ∧ tt σ2 H2 fun b H3 =>
      if b = true then te σ2 H3 fun y H4 => ∃ acc, H4 D = some (.lst acc) ∧ acc.length < sizeLine ∧ Pv (i + 1) (upd H4 D (.lst (acc ++ [y]))) else Pv (i + 1) H3) (hd : ∀ H, Pv a.cps.size H → Qd H) :
    ∃ W : Nat → Nat → Hp → Prop, (∃ m, W 0 m (upd H1 D (.lst []))) ∧ ∀ i m H, W i m H →
      ((Its a).stop i H ∧ Qd H) ∨ ((Its a).go i H ∧ ∃ Nx : Hp → Prop, (∀ H', Nx H' → ∃ m', m' < m ∧ W (i + 1) m' H') ∧ ∀ x H', (Its a).yld i H x H' → g x (wipe σ vs) H' fun σ2 H2 => wipe σ2 vs = wipe σ vs ∧ tt σ2 H2 fun b H3 =>
        if b = true then te σ2 H3 fun y H4 => ∃ acc, H4 D = some (.lst acc) ∧ acc.length < sizeLine ∧ Nx (upd H4 D (.lst (acc ++ [y]))) else Nx H3) := by
  refine ⟨fun i m H => m = a.cps.size - i ∧ i ≤ a.cps.size ∧ Pv i H, ⟨a.cps.size, by simp, Nat.zero_le _, h0⟩, ?_⟩
  rintro i m H ⟨rfl, le, p⟩
  rcases Nat.lt_or_ge i a.cps.size with lt | ge
  · refine .inr ⟨lt, Pv (i + 1), ?_, ?_⟩
    · intro H' p'
      exact ⟨a.cps.size - (i + 1), by omega, rfl, lt, p'⟩
    · rintro x H' ⟨rfl, c, hc, rfl⟩
      exact hs i c _ (by rw [Array.getElem?_toList]; exact hc) p
  · obtain rfl : i = a.cps.size := by omega
    exact .inl ⟨Nat.le_refl _, hd H p⟩
theorem one_lt (c d : Nat) : decide ([c] < [d]) = decide (c < d) := by
  rw [decide_eq_decide, List.cons_lt_cons_iff]
  constructor
  · rintro (h | ⟨_, h⟩)
    · exact h
    · exact absurd h (List.not_lt_nil _)
  · exact Or.inl
theorem all_take (pb : Nat → Bool) (l : List Nat) : ((l.map pb).all id) = l.all pb := by
  rw [List.all_map]
  rfl
theorem tri0 : TriplesOk (#[] : Array Value).toList := True.intro
theorem tabIn_of {K : PySem.W.Frag} {x : Str} {f c P : Addr} {oc ox : Value} {od oy : Option Addr} {fd : FuncData} {sl sz : Array (Option Value)} {vs : Array Value} (a : PySem.W.nsIn K mainGlobals x = some (some (.ref f))) (l : K.lookup f = some ⟨oc, od, .func fd, sl⟩) (hc : fd.code = .ref c)
    (lc : K.lookup c = some ⟨ox, oy, .fields vs, sz⟩) (pv : vs[11]? = some (.ref P)) : PySem.W.tabIn K x = some (c, P) := by
  unfold PySem.W.tabIn
  rw [a]
  dsimp only
  rw [l]
  dsimp only
  rw [hc]
  dsimp only
  rw [lc]
  dsimp only
  rw [pv]
/-- two tables -/
theorem tabsAt_of {h : Heap} {c1 p1 c2 p2 : Addr} (a : PySem.W.CodeHd h c1 p1 ∧ h.get? p1 = some (PySem.W.tabObj #[])) (b : PySem.W.CodeHd h c2 p2 ∧ h.get? p2 = some (PySem.W.tabObj #[])) : ∀ p ∈ [(c1, p1), (c2, p2)], h.get? p.2 = some { cls := .none, data := .fields #[] } := by
  intro p m
  rcases List.mem_cons.mp m with rfl | m
  · exact a.2
  · rw [List.mem_singleton.mp m]
    exact b.2
theorem tabsK_of {K : PySem.W.Frag} {c1 p1 c2 p2 : Addr} (a : K.lookup p1 = none) (b : K.lookup p2 = none) : ∀ p ∈ [(c1, p1), (c2, p2)], K.lookup p.2 = none := by
  intro p m
  rcases List.mem_cons.mp m with rfl | m
  · exact a
  · rw [List.mem_singleton.mp m]
    exact b
theorem tabsC_of {h : Heap} {c1 p1 c2 p2 : Addr} (a : PySem.W.CodeHd h c1 p1 ∧ h.get? p1 = some (PySem.W.tabObj #[])) (b : PySem.W.CodeHd h c2 p2 ∧ h.get? p2 = some (PySem.W.tabObj #[])) : ∀ p ∈ [(c1, p1), (c2, p2)], PySem.W.CodeHd h p.1 p.2 := by
  intro p m
  rcases List.mem_cons.mp m with rfl | m
  · exact a.1
  · rw [List.mem_singleton.mp m]
    exact b.1
end Cu

namespace Cu
open PySem PySem.Spec PyProof.Rows L2
/-! ### t[::-1] of a tuple -/
section
variable {prog : Program} {w : World} {A : Around} {E : Value → Shared → Prop} {s : Shared}
theorem places_back (n : Nat) : Builtin.Slice.slicePlaces ((n : Int) - 1) (-1) (-1) = n := by
  unfold Builtin.Slice.slicePlaces
  have h1 : ¬ ((-1 : Int) > 0) := by decide
  rw [if_neg h1]
  split
  · rw [show (- -1 : Int) = 1 by decide, Int.ediv_one]
    omega
  · omega
theorem fm_congr {α β : Type} {f g : α → Option β} : ∀ (l : List α), (∀ k ∈ l, f k = g k) → l.filterMap f = l.filterMap g
  | [], _ => rfl
  | a :: r, h => by
    rw [List.filterMap_cons, List.filterMap_cons, h a List.mem_cons_self, fm_congr r fun k m => h k (List.mem_cons_of_mem _ m)]
theorem pick_back (xs : Array Value) : ((List.range xs.size).filterMap fun (k : Nat) => xs[((xs.size : Int) - 1 + (k : Int) * -1).toNat]?).toArray = xs.toList.reverse.toArray := by
  have e : (List.range xs.size).filterMap (fun (k : Nat) => xs[((xs.size : Int) - 1 + (k : Int) * -1).toNat]?) = ((List.range xs.size).map (fun k => xs.size - 1 - k)).filterMap (fun k => xs[k]?) := by
    rw [List.filterMap_map]
    apply fm_congr
    intro k m
    have := List.mem_range.mp m
    show xs[((xs.size : Int) - 1 + (k : Int) * -1).toNat]? = xs[xs.size - 1 - k]?
    rw [show ((xs.size : Int) - 1 + (k : Int) * -1).toNat = xs.size - 1 - k by omega]
  rw [e, PySem.W.krv_range, List.filterMap_reverse, PySem.W.krv_all]
theorem applied_back {sl : Addr} {vs : Value} {n : Nat} {Q : Int × Int × Nat → Shared → Prop} (hs : s.heap.IsSliceOf sl .none .none vs) (ps : IsPart vs (some (-1))) (h : Q ((n : Int) - 1, -1, n) s) :
    wpAny (model prog w) A (Builtin.Slice.sliceApplied (.ref sl) (pure (n : Int))) Q E s := by
  obtain ⟨os, hos, hcs, hds⟩ := id hs
  unfold Builtin.Slice.sliceApplied Builtin.Slice.sliceFields
  refine wpAny_bind (wpAny_bind (wpAny_field hos hds (x := .none) rfl (wpAny_bind (wpAny_field hos hds (x := .none) rfl (wpAny_bind (wpAny_field hos hds (x := vs) rfl (wpAny_pure ?_)))))))
  refine wpAny_bind (HT.slicePart_ ps ?_)
  show wpAny _ _ (if ((-1 : Int) == 0) = true then _ else _) _ _ s
  rw [if_neg (by decide)]
  refine wpAny_bind (HT.slicePart_ .none (wpAny_bind (HT.slicePart_ .none (wpAny_bind (wpAny_pure ?_)))))
  show wpAny _ _ (pure ((n : Int) - 1, (-1 : Int), Builtin.Slice.slicePlaces ((n : Int) - 1) (-1) (-1))) _ _ s
  rw [places_back]
  exact wpAny_pure h
theorem get_back {t sl : Addr} {items : Array Value} {vs : Value} {Q : Value → Shared → Prop} (ht : IsTup s.heap t items) (hs : s.heap.IsSliceOf sl .none .none vs) (ps : IsPart vs (some (-1)))
    (h : Q (.ref s.heap.objs.size) { s with heap := s.heap.push { cls := .type "tuple", data := .seq items.toList.reverse.toArray } }) (hsz : items.size ≤ sizeLine) : wpAny (model prog w) A (getItem (.ref t) (.ref sl)) Q E s := by
  have fits : sizeOk (.seq items.toList.reverse.toArray) := by
    show items.toList.reverse.toArray.size ≤ sizeLine
    rw [List.size_toArray, List.length_reverse, Array.length_toList]
    exact hsz
  obtain ⟨os, hos, hcs, hds⟩ := id hs
  have isSl : s.TypeIs (.ref sl) "slice" := ⟨os, hos, hcs⟩
  unfold getItem
  try with_reducible refine wpAny_holding ?_
  first | refine wpAny_bind (wpAny_pure ?_) | skip
  refine wpAny_bind (wpAny_sequenceKey ht.typeIs (by decide) ?_)
  refine wpAny_bind (wpAny_callSpecial?_slot (name := Str.ofString "__getitem__") ht.typeIs PyProof.Rows.slot_tuple_getitem
    (wpAny_call_entry PyProof.Rows.slot_tuple_getitem ht.typeIs entry_tuple_getitem ?_ (args_tuple_getitem _ _)))
  show wpAny _ _ (Builtin.Tuple.tupleItemsOf (.ref t) >>= _) _ _ s
  refine wpAny_bind (tupleItemsOf_ ht ?_)
  refine wpAny_bind (wpAny_typeOf isSl ?_)
  rw [if_pos (by decide)]
  refine wpAny_bind (applied_back hs ps ?_)
  have no : ¬ ((((items.size : Int) - 1) == 0 && (-1 : Int) == 1 && items.size == items.size) = true) := by
    intro q
    rw [Bool.and_eq_true, Bool.and_eq_true] at q
    exact absurd (eq_of_beq q.1.2) (by decide)
  show wpAny _ _ (if (((items.size : Int) - 1) == 0 && (-1 : Int) == 1 && items.size == items.size) = true then _ else _) _ _ s
  rw [if_neg no, pick_back]
  first
    | exact wpAny_bind (m := Builtin.Tuple.tupleExact _) (wpAny_newObj_type (wpAny_pure ⟨_, rfl, wpAny_pure h⟩) fits)
    | exact wpAny_bind (m := Builtin.Tuple.tupleExact _) (wpAny_newObj_type (wpAny_bind (wpAny_pure (wpAny_pure ⟨_, rfl, wpAny_pure h⟩))) fits)
    | exact wpAny_bind (wpAny_bind (m := Builtin.Tuple.tupleExact _) (wpAny_newObj_type (wpAny_pure (wpAny_pure ⟨_, rfl, wpAny_pure h⟩)) fits))
    | exact wpAny_bind (wpAny_bind (m := Builtin.Tuple.tupleExact _) (wpAny_newObj_type (wpAny_pure ⟨_, rfl, wpAny_pure h⟩) fits))
end
section
variable {X : Cx}
def tRevT (K : PySem.W.Frag) (te : TE) : TE := fun σ H Q => te σ H fun x H1 => ∃ a xs, x = .ref a ∧ SqT K H1 a xs ∧ ∀ p, H1 p = none → Q (.ref p) (upd H1 p (.tup xs.reverse))
theorem pe_revT {e : Expr} {te : TE} {k : Nat} {p1 p2 p3 pos : Pos} (he : PE X e te) : PE X (.Subscript e (.Slice none none (some (.UnaryOp .USub (.Constant (.int 1) k p1) p2)) p3) pos) (tRevT X.K te) := by
  constructor
  intro pins s σ H Q I h
  refine Subscript_ (thn (he.run pins s σ H _ I h) ?_)
  rintro v s1 ⟨x, H1, I1, r1, a, xs, rfl, hx, q⟩
  cases r1
  have step : PO X (some (.UnaryOp .USub (.Constant (.int 1) k p1) p2)) (tPart (tUn (rU fun i => .int (-i)) (tC (.int 1)))) := po_some (pe_un un_neg pe_int)
  refine wpAny_Slice (thn (po_none.run pins s1 σ H1 (fun o H2 => o = none ∧ H2 = H1) I1 ⟨rfl, rfl⟩) ?_)
  rintro vl s2 ⟨l, H2, I2, pl, el, e2⟩
  rw [e2] at I2
  rw [el] at pl
  refine thn (po_none.run pins s2 σ _ (fun o H3 => o = none ∧ H3 = H1) I2 ⟨rfl, rfl⟩) ?_
  rintro vu s3 ⟨u, H3, I3, pu, eu, e3⟩
  rw [e3] at I3
  rw [eu] at pu
  refine thn (step.run pins s3 σ _ (fun o H4 => o = some (-1) ∧ H4 = H1) I3 ⟨1, rfl, -1, rfl, rfl, rfl⟩) ?_
  rintro vs s4 ⟨o, H4, I4, ps, eo, e4⟩
  rw [e4] at I4
  rw [eo] at ps
  cases pl
  cases pu
  have I5 : Inv X pins σ H1 { s4 with heap := s4.heap.push { cls := .type "slice", data := .fields #[.none, .none, vs] } } := I4.kept (t' := s4.toks) fun b ob q => Heap.get?_push_of_some _ q
  obtain ⟨its, r, ht, hz⟩ := I5.tuple hx
  have len := r.length
  show wpAny (model X.prog X.w) X.A (subscriptTail e (.Slice none none (some (.UnaryOp .USub (.Constant (.int 1) k p1) p2)) p3) (.ref a) (.ref s4.heap.objs.size)) (EP X pins σ Q) X.xe { s4 with heap := s4.heap.push { cls := .type "slice", data := .fields #[.none, .none, vs] } }
  refine tail_any (ops := [.ref a, .ref s4.heap.objs.size]) ht.typeIs (PyProof.Rows.slot_tuple_getitem.lookup) ?_ (by with_unfolding_all rfl)
  refine get_back ht (Heap.IsSliceOf.new _ _ _ vs) ps ?_ (by rw [List.size_toArray]; omega)
  refine ⟨.ref _, _, I5.laid (t' := s4.toks) (o := .tup xs.reverse) (fun b ob q => Heap.get?_push_of_some _ q) (Nat.le_refl _) ?_, rfl, q _ (I5.hok.fresh (Nat.le_refl _))⟩
  refine ⟨?_, _, r.reverse, IsTup.new _ _⟩
  rw [List.length_reverse]
  exact hz
end
end Cu

namespace Cu
open PySem PySem.Spec PyProof.Rows L2
/-! ### the text -/
def topS (i : Nat) : Stmt := PySem.Challenge.pw_crossundo_k02_single_edits.main.body.getD i (.Pass ⟨0, 0, 0, 0⟩)
/-- a def that stands, is named, and binds its arguments -/
structure Df (K : PySem.W.Frag) (mg : Str → Option Value) (nm : Str) (st : Stmt) (ps : List Str) (f : Addr) (fd : FuncData) : Prop where
  F : Fun K nm nm st f fd
  g : mg nm = some (.ref f)
  b : Binds K fd ps []
/-- the builtins' names are free -/
structure Bl (mg : Str → Option Value) : Prop where
  len : mg "len" = none
  abs : mg "abs" = none
  int : mg "int" = none
  range : mg "range" = none
  repr : mg "repr" = none
  max : mg "max" = none
  min : mg "min" = none
  all : mg "all" = none
  ord : mg "ord" = none
  isinstance : mg "isinstance" = none
  str : mg "str" = none
  bool : mg "bool" = none
  tuple : mg "tuple" = none
  list : mg "list" = none
abbrev sHand : Stmt := topS 9
abbrev sTake : Stmt := topS 10
abbrev sOf : Stmt := topS 11
theorem scH : FnScope ["_law_script", "_law_k", "_law_cell", "_law_great"] ["_law_script", "_law_k"] (defScope sHand) := ⟨rfl, rfl, rfl, by decide +kernel, rfl, by decide +kernel, by decide +kernel⟩
theorem scT : FnScope ["_law_hand_here", "_law_many", "_law_digit", "_law_prime", "_law_drawn"] ["_law_hand_here", "_law_many"] (defScope sTake) := ⟨rfl, rfl, rfl, by decide +kernel, rfl, by decide +kernel, by decide +kernel⟩
theorem scO : FnScope ["_law_hand_here", "_law_some"] ["_law_hand_here", "_law_some"] (defScope sOf) := ⟨rfl, rfl, rfl, by decide +kernel, rfl, by decide +kernel, by decide +kernel⟩
section
variable {P : Program} {w : World} {K : PySem.W.Frag} {mg : Str → Option Value} {base : Heap}
/-! ### _law_hand -/
def spHand (K : PySem.W.Frag) : Sp := fun vs H Q _ => ∃ (a : Addr) (k : Int) (ns : List Int), vs = [.ref a, .int k] ∧ SqL K H a (ns.map V.int) ∧ 0 ≤ k ∧ k < 1000 ∧ ∀ H' p, Same H H' → H p = none → Hand H' p 0 → Q (.ref p) H'
theorem big_pos : (0 : Int) < 10 ^ (60 : Int).toNat * 10 ^ (60 : Int).toNat * 10 ^ (60 : Int).toNat := by decide +kernel
theorem big_lt : (10 : Int) ^ (60 : Int).toNat * 10 ^ (60 : Int).toNat * 10 ^ (60 : Int).toNat < 2 ^ 600 := by decide +kernel
theorem ok_hand {f : Addr} {fd : FuncData} {k : Nat} (F : Fun K "_law_hand" "_law_hand" sHand f fd) (T : Bl mg) : FnOk P w K mg base CX0 (k + 1) f fd ["_law_script", "_law_k"] (spHand K) := by
  refine F.ok scH (fun vs H Q E h => ?_) (fun cdv A outer s H vs Q E hr h => ?_)
  · obtain ⟨a, k, ns, rfl, _⟩ := h
    rfl
  · obtain ⟨a, k, ns, rfl, hS, hk0, hk1, q⟩ := h
    refine ⟨_, (pss_cons (ps_set (i := 2) scH.nd rfl (.inl rfl) (pe_ifExp (pt_cmpR op_lt (pv 1) (pe_callB call_len_seq (by rfl) T.len PySem.boot_len (pa_cons (pv 0) pa_nil)) (nomark _)) (pe_ix ix_list (pv 0) (pv 1) (fun _ _ => rfl)) pe_int))
  (pss_cons (ps_set (i := 3) scH.nd rfl (.inl rfl) (pe_op op_mul (pe_op op_mod (pe_callB call_abs (by rfl) T.abs (by decide +kernel) (pa_cons (pv 2) pa_nil)) (pe_op op_mulW (pe_op op_mulW (pe_op op_pow pe_int pe_int) (pe_op op_pow pe_int pe_int)) (pe_op op_pow pe_int pe_int))) (pe_callTy call_int1 (by rfl) T.int (by decide +kernel) (pa_cons (pe_cmpR op_ge (pe_callB call_abs (by rfl) T.abs (by decide +kernel) (pa_cons (pv 2) pa_nil)) (pe_op op_pow pe_int pe_int) (nomark _)) pa_nil))))
  (pss_one (ps_ret (pe_lst (pa_cons (pv 3) (pa_cons (pe_op op_mod (pe_op op_mul (pe_op op_add (pe_op op_add (pe_op op_mod (pv 2) pe_int) (pe_op op_mul pe_int (pv 1))) pe_int) pe_int) pe_int) (pa_cons pe_int pa_nil)))))))), ?_⟩
    refine ⟨.int k, rfl, .ref a, rfl, a, _, rfl, .inl hS, _, _, rfl, rfl, _, rfl, ?_⟩
    refine ifx (fun v => ∃ c : Int, v = .int c) (fun hb all => ?_) ⟨0, rfl⟩ ?_
    · have hb' : k < ((ns.map V.int).length : Int) := of_decide_eq_true hb
      obtain ⟨v, e1, e2⟩ := at_of hk0 hb'
      refine ⟨.ref a, rfl, .int k, rfl, a, _, k, v, rfl, rfl, hS, e2, all v ?_⟩
      rw [List.getElem?_map] at e1
      obtain ⟨z, _, rfl⟩ := Option.map_eq_some_iff.mp e1
      exact ⟨z, rfl⟩
    · rintro v ⟨c, rfl⟩
      refine ⟨.int c, rfl, c, rfl, 10, 60, rfl, rfl, ⟨by decide, by decide, by decide⟩, 10, 60, rfl, rfl, ⟨by decide, by decide, by decide⟩, _, _, rfl, rfl, wide_mul (a := 200) (b := 200) (by decide +kernel) (by decide +kernel) (by decide) (by decide) (by decide),
        10, 60, rfl, rfl, ⟨by decide, by decide, by decide⟩, _, _, rfl, rfl, wide_mul (a := 400) (b := 200) (by decide +kernel) (by decide +kernel) (by decide) (by decide) (by decide), _, _, rfl, rfl, big_pos, ?_⟩
      refine ⟨.int c, rfl, c, rfl, 10, 18, rfl, rfl, ⟨by decide, by decide, by decide⟩, _, _, rfl, rfl, .inr ⟨_, rfl, _, _, rfl, rfl, .inr ?_, ?_⟩⟩
      · exact b01 _
      · have m0 : ∀ z : Int, 0 ≤ z % (10 ^ (60 : Int).toNat * 10 ^ (60 : Int).toNat * 10 ^ (60 : Int).toNat) := fun z => Int.emod_nonneg z (Int.ne_of_gt big_pos)
        have m1 : ∀ z : Int, z % (10 ^ (60 : Int).toNat * 10 ^ (60 : Int).toNat * 10 ^ (60 : Int).toNat) < 2 ^ 600 := fun z => Int.lt_trans (Int.emod_lt_of_pos z big_pos) big_lt
        have n0 : 0 ≤ c % 2147483629 := Int.emod_nonneg c (by decide)
        have n1 : c % 2147483629 < 2147483629 := Int.emod_lt_of_pos c (by decide)
        refine ⟨_, rfl, .int c, rfl, c, 2147483629, rfl, rfl, (show (0 : Int) < 2147483629 by decide), .int k, rfl, 7919, k, rfl, rfl, .inl ⟨by decide, by decide⟩, _, _, rfl, rfl, _, 13, rfl, rfl, _, 48271, rfl, rfl, .inr ⟨by decide, by decide⟩, _, 2147483647, rfl, rfl,
          (show (0 : Int) < 2147483647 by decide), ?_, fun p np => q _ p (same_upd np) np ⟨_, _, 0, upd_same, (b01_mul _ (m0 _) (m1 _)).1, (b01_mul _ (m0 _) (m1 _)).2, Int.emod_nonneg _ (by decide), Int.emod_lt_of_pos _ (by decide), by decide, by decide⟩⟩
        show 3 ≤ sizeLine
        decide
/-! ### _law_take -/
def spTake : Sp := fun vs H Q _ => ∃ (a : Addr) (m : Int) (n : Nat), vs = [.ref a, .int m] ∧ Hand H a n ∧ n < 2 ^ 40 ∧ 0 < m ∧ m < 1073741824 ∧ ∀ H' d, Upto a H H' → Hand H' a (n + 1) → 0 ≤ d → d < m → Q (.int d) H'
theorem prime_of {r : Int} (h0 : 0 ≤ r) (h1 : r < 5) : ∃ p : Int, atI [V.int 2147483647, .int 2147483629, .int 2147483587, .int 2147483579, .int 2147483563] r = some (.int p) ∧ 0 < p := by
  obtain rfl | rfl | rfl | rfl | rfl : r = 0 ∨ r = 1 ∨ r = 2 ∨ r = 3 ∨ r = 4 := by omega
  · exact ⟨_, rfl, by decide⟩
  · exact ⟨_, rfl, by decide⟩
  · exact ⟨_, rfl, by decide⟩
  · exact ⟨_, rfl, by decide⟩
  · exact ⟨_, rfl, by decide⟩
theorem ok_take {f : Addr} {fd : FuncData} {k : Nat} (F : Fun K "_law_take" "_law_take" sTake f fd) (T : Bl mg) : FnOk P w K mg base CX0 (k + 1) f fd ["_law_hand_here", "_law_many"] spTake := by
  refine F.ok scT (fun vs H Q E h => ?_) (fun cdv A outer s H vs Q E hr h => ?_)
  · obtain ⟨a, m, n, rfl, _⟩ := h
    rfl
  · obtain ⟨a, m, n, rfl, ⟨g, x, c, e, g0, g1, x0, x1, c0, c1⟩, hn, m0, m1, q⟩ := h
    refine ⟨_, (pss_cons (ps_if (pt_cmpR op_gt (pe_ix ix_list (pv 0) pe_int (fun _ _ => rfl)) pe_int (nomark _))
  (pss_cons (ps_set (i := 2) scT.nd rfl (.inl rfl) (pe_op op_mod (pe_ix ix_list (pv 0) pe_int (fun _ _ => rfl)) (pv 1)))
  (pss_cons (ps_asg (pe_op op_fdiv (pe_ix ix_list (pv 0) pe_int (fun _ _ => rfl)) (pv 1)) (pg_sub (pv 0) pe_int set_list))
  (pss_one (ps_ret (pv 2)))))
  pss_nil)
  (pss_cons (ps_asg (pe_op op_add (pe_ix ix_list (pv 0) pe_int (fun _ _ => rfl)) pe_int) (pg_sub (pv 0) pe_int set_list))
  (pss_cons (ps_set (i := 3) scT.nd rfl (.inl rfl) (pe_ix ix_list (pe_lst (pa_cons pe_int (pa_cons pe_int (pa_cons pe_int (pa_cons pe_int (pa_cons pe_int pa_nil)))))) (pe_op op_mod (pe_ix ix_list (pv 0) pe_int (fun _ _ => rfl)) pe_int) (fun _ _ => rfl)))
  (pss_cons (ps_set (i := 4) scT.nd rfl (.inl rfl) (pe_op op_mod (pe_op op_pow (pe_op op_add (pe_ix ix_list (pv 0) pe_int (fun _ _ => rfl)) (pe_op op_mul pe_int (pe_ix ix_list (pv 0) pe_int (fun _ _ => rfl)))) pe_int) (pv 3)))
  (pss_one (ps_ret (pe_op op_mod (pe_op op_fdiv (pe_op op_mod (pe_op op_mul (pv 4) (pe_op op_add (pe_op op_mod (pv 4) pe_int) (pe_ix ix_list (pv 0) pe_int (fun _ _ => rfl)))) (pv 3)) pe_int) (pv 1)))))))), ?_⟩
    refine ⟨.ref a, rfl, a, _, 0, .int g, rfl, rfl, SqL.of e, rfl, g, 0, rfl, rfl, _, rfl, ite2 (fun hb => ?_) (fun hb => ?_)⟩
    · refine ⟨.ref a, rfl, a, _, 0, .int g, rfl, rfl, SqL.of e, rfl, .int m, rfl, g, m, rfl, rfl, m0, ?_⟩
      refine ⟨.ref a, rfl, a, _, 0, .int g, rfl, rfl, SqL.of e, rfl, .int m, rfl, g, m, rfl, rfl, ⟨m0, m1⟩, .ref a, rfl, a, _, 0, 0, rfl, rfl, e, rfl, ?_⟩
      refine ⟨_, rfl, q _ _ Upto.upd ⟨_, x, c, upd_same, Int.ediv_nonneg g0 (by omega), ?_, x0, x1, c0, by omega⟩ (Int.emod_nonneg _ (by omega)) (Int.emod_lt_of_pos _ m0)⟩
      exact Int.lt_of_le_of_lt (Int.ediv_le_self _ g0) g1
    · refine ⟨.ref a, rfl, a, _, 2, .int c, rfl, rfl, SqL.of e, rfl, c, 1, rfl, rfl, .ref a, rfl, a, _, 2, 2, rfl, rfl, e, rfl, ?_⟩
      have e1 : (upd H a (.lst [.int g, .int x, .int (c + 1)])) a = some (.lst [.int g, .int x, .int (c + 1)]) := upd_same
      refine ⟨by show 5 ≤ sizeLine; decide, fun l nl => ?_⟩
      have nla : a ≠ l := ne_of_none e1 nl
      have e2 : ∀ o, (upd (upd H a (.lst [.int g, .int x, .int (c + 1)])) l o) a = some (.lst [.int g, .int x, .int (c + 1)]) := fun o => by rw [upd_ne nla]; exact e1
      obtain ⟨p, hp, p0⟩ := prime_of (r := (c + 1) % 5) (Int.emod_nonneg _ (by decide)) (Int.emod_lt_of_pos _ (by decide))
      refine ⟨.ref a, rfl, a, _, 2, .int (c + 1), rfl, rfl, SqL.of (e2 _), rfl, c + 1, 5, rfl, rfl, (show (0 : Int) < 5 by decide), l, _, _, _, rfl, rfl, SqL.of upd_same, hp, ?_⟩
      refine ⟨.ref a, rfl, a, _, 1, .int x, rfl, rfl, SqL.of (e2 _), rfl, .ref a, rfl, a, _, 2, .int (c + 1), rfl, rfl, SqL.of (e2 _), rfl, 7919, c + 1, rfl, rfl, .inl ⟨by decide, by decide⟩, x, _, rfl, rfl, _, 3, rfl, rfl, ⟨by decide, by decide, by omega⟩, .int p, rfl, _, p, rfl, rfl, p0, ?_⟩
      refine ⟨_, rfl, _, rfl, _, 1009, rfl, rfl, (show (0 : Int) < 1009 by decide), .ref a, rfl, a, _, 2, .int (c + 1), rfl, rfl, SqL.of (e2 _), rfl, _, _, rfl, rfl, _, _, rfl, rfl, .inr ?_, .int p, rfl, _, p, rfl, rfl, p0, _, 11, rfl, rfl, ⟨by decide, by decide⟩, .int m, rfl, _, m, rfl, rfl, m0, ?_⟩
      · have := Int.emod_nonneg ((x + 7919 * (c + 1)) ^ (3 : Int).toNat % p) (show (1009 : Int) ≠ 0 by decide)
        have := Int.emod_lt_of_pos ((x + 7919 * (c + 1)) ^ (3 : Int).toNat % p) (show (0 : Int) < 1009 by decide)
        constructor <;> omega
      · refine q _ _ ((Upto.upd).trans (.new nl)) ⟨g, x, c + 1, e2 _, g0, g1, x0, x1, by omega, by omega⟩ (Int.emod_nonneg _ (by omega)) (Int.emod_lt_of_pos _ m0)
/-! ### _law_of, of a text -/
def spOfS : Sp := fun vs H Q _ => ∃ (a : Addr) (z : Str) (n : Nat), vs = [.ref a, .str z] ∧ Hand H a n ∧ n < 2 ^ 40 ∧ 0 < z.length ∧ z.length ≤ 1000 ∧ ∀ H' c, Upto a H H' → Hand H' a (n + 1) → c ∈ z.cps.toList → Q (.str ⟨#[c]⟩) H'
theorem ok_ofS {f fT : Addr} {fd fdT : FuncData} {k : Nat} (F : Fun K "_law_of" "_law_of" sOf f fd) (DT : Df K mg "_law_take" sTake ["_law_hand_here", "_law_many"] fT fdT) (T : Bl mg) : FnOk P w K mg base CX0 (k + 2) f fd ["_law_hand_here", "_law_some"] spOfS := by
  have GT : FnOk P w K mg base CX0 1 fT fdT _ spTake := ok_take DT.F T
  refine F.ok scO (fun vs H Q E h => ?_) (fun cdv A outer s H vs Q E hr h => ?_)
  · obtain ⟨a, m, n, rfl, _⟩ := h
    rfl
  · obtain ⟨a, z, n, rfl, hH, hn, z0, z1, q⟩ := h
    refine ⟨_, (pss_one (ps_ret (pe_ix ix_str (pv 1) (pe_call GT (hr.mono (by omega)) (by rfl) DT.g DT.F.kp DT.b .nil pass0 (pa_cons (pv 0) (pa_cons (pe_callB call_len_str (by rfl) T.len PySem.boot_len (pa_cons (pv 1) pa_nil)) pa_nil))) (fun _ _ => rfl)))), ?_⟩
    have zl : z.length ≤ sizeLine := Nat.le_trans z1 (by decide)
    refine ⟨.str z, rfl, .ref a, rfl, .str z, rfl, z, rfl, zl, a, _, n, rfl, hH, hn, by omega, by omega, fun H' d u h' d0 d1 => ?_⟩
    obtain ⟨c, e1, e2⟩ := at_of (xs := z.cps.toList) d0 (by rw [Array.length_toList]; exact d1)
    exact ⟨z, d, c, rfl, rfl, zl, e2, q H' c u h' (List.mem_of_getElem? e1)⟩
/-! ### _law_of, of a list -/
def spOfL : Sp := fun vs H Q _ => ∃ (a l : Addr) (xs : List V) (n : Nat), vs = [.ref a, .ref l] ∧ Hand H a n ∧ n < 2 ^ 40 ∧ l ≠ a ∧ H l = some (.lst xs) ∧ 0 < xs.length ∧ xs.length ≤ 1000 ∧ ∀ H' v, Upto a H H' → Hand H' a (n + 1) → v ∈ xs → Q v H'
theorem ok_ofL {f fT : Addr} {fd fdT : FuncData} {k : Nat} (F : Fun K "_law_of" "_law_of" sOf f fd) (DT : Df K mg "_law_take" sTake ["_law_hand_here", "_law_many"] fT fdT) (T : Bl mg) : FnOk P w K mg base CX0 (k + 2) f fd ["_law_hand_here", "_law_some"] spOfL := by
  have GT : FnOk P w K mg base CX0 1 fT fdT _ spTake := ok_take DT.F T
  refine F.ok scO (fun vs H Q E h => ?_) (fun cdv A outer s H vs Q E hr h => ?_)
  · obtain ⟨a, l, xs, n, rfl, _⟩ := h
    rfl
  · obtain ⟨a, l, xs, n, rfl, hH, hn, la, el, x0, x1, q⟩ := h
    refine ⟨_, (pss_one (ps_ret (pe_ix ix_list (pv 1) (pe_call GT (hr.mono (by omega)) (by rfl) DT.g DT.F.kp DT.b .nil pass0 (pa_cons (pv 0) (pa_cons (pe_callB call_len_seq (by rfl) T.len PySem.boot_len (pa_cons (pv 1) pa_nil)) pa_nil))) (fun _ _ => rfl)))), ?_⟩
    refine ⟨.ref l, rfl, .ref a, rfl, .ref l, rfl, l, xs, rfl, .inl (SqL.of el), a, _, n, rfl, hH, hn, by omega, by omega, fun H' d u h' d0 d1 => ?_⟩
    obtain ⟨v, e1, e2⟩ := at_of (xs := xs) d0 d1
    exact ⟨l, xs, d, v, rfl, rfl, SqL.of (u l _ la el), e2, q H' v u h' (List.mem_of_getElem? e1)⟩
end
end Cu

namespace Cu
open PySem PySem.Spec PyProof.Rows L2
/-! ### names and contents -/
def nameS (z : Str) : Bool := decide (1 ≤ z.length) && decide (z.length ≤ 8) && (tl z).all (between "a" "z")
def contS (z : Str) : Bool := decide (z.length ≤ 400) && (tl z).all (fun c => between " " "~" c && ((c : Int) != 37))
def nameB : V → Bool
  | .str z => nameS z
  | _ => false
def contB : V → Bool
  | .str z => contS z
  | _ => false
/-- a text, or something that is none -/
def Thing (K : PySem.W.Frag) (H : Hp) (x : V) : Prop := (∃ z : Str, x = .str z ∧ z.length ≤ sizeLine) ∨ ((∀ z, x ≠ .str z) ∧ ∃ t, TyX K H x t ∧ PySem.W.kitOne K t (.type "str") = some false)
abbrev sIsName : Stmt := topS 4
abbrev sIsContent : Stmt := topS 5
theorem scN : FnScope ["thing"] ["thing"] (defScope sIsName) := ⟨rfl, rfl, rfl, by decide +kernel, rfl, by decide +kernel, by decide +kernel⟩
theorem scC : FnScope ["thing"] ["thing"] (defScope sIsContent) := ⟨rfl, rfl, rfl, by decide +kernel, rfl, by decide +kernel, by decide +kernel⟩
section
variable {P : Program} {w : World} {K : PySem.W.Frag} {mg : Str → Option Value} {base : Heap}
def spIs (K : PySem.W.Frag) (tb : Addr) (g : V → Bool) : Sp := fun vs H Q _ => ∃ x, vs = [x] ∧ GxR.TabG H tb ∧ Thing K H x ∧ ∀ H', GxR.Tabbed tb H H' → Q (.bl (g x)) H'
theorem tabbed_refl {H : Hp} {tb : Addr} (h : GxR.TabG H tb) : GxR.Tabbed tb H H := ⟨h, fun _ _ => rfl⟩
theorem ok_isName {f c tb : Addr} {fd : FuncData} {k : Nat} {t8 : Tok} (F : Fun K "is_name" "is_name" sIsName f fd) (hc : fd.code = .ref c) (TB : GxR.TabB base mg c tb) (T : Bl mg) (m8 : mg "MOST_LETTERS" = some (.int 8 t8)) : FnOk P w K mg base CX0 (k + 1) f fd ["thing"] (spIs K tb nameB) := by
  refine okC F hc scN (fun vs H Q E h => ?_) (fun A outer s H vs Q E hr h => ?_)
  · obtain ⟨x, rfl, _⟩ := h
    rfl
  · obtain ⟨x, rfl, tab, th, q⟩ := h
    refine ⟨_, (pss_cons (ps_if (PW.pt (pw_or (pt_not (pt_val (pe_callB call_isi (by rfl) T.isinstance (by decide +kernel) (pa_cons (pv 0) (pa_cons (pe_bltn (v := .ty "str") (by rfl) T.str (by decide +kernel) rfl) pa_nil)))))
          (pw_or1 (pt_not (pt_chain op_le op_le pe_int (pe_callB call_len_str (by rfl) T.len PySem.boot_len (pa_cons (pv 0) pa_nil)) (pe_glob (v := .int 8) rfl m8 ⟨_, rfl⟩))))))
        (pss_one (ps_ret pe_bl)) pss_nil)
      (pss_one (ps_ret (pe_allG hr (by rfl) T.all TB rfl (gen_scope rfl rfl (by decide +kernel) rfl rfl) (pv 0) (genR_text (test_between rfl rfl)))))), ?_⟩
    rcases th with ⟨z, rfl, zl⟩ | ⟨nz, t, ty, kit⟩
    · refine ⟨.str z, rfl, _, _, _, _, true, rfl, .ty "str", .base (.str z), kit_ty (by decide +kernel), _, rfl, iffF rfl ?_⟩
      refine ⟨.str z, rfl, z, rfl, zl, 1, _, rfl, rfl, _, rfl, ?_⟩
      by_cases h1 : (1 : Int) ≤ z.length
      · refine iffT (decide_eq_true h1) ?_
        refine ⟨_, 8, rfl, rfl, _, rfl, ?_⟩
        by_cases h8 : (z.length : Int) ≤ 8
        · refine iffF (by rw [decide_eq_true h8]; rfl) ?_
          refine ⟨.str z, rfl, tab, _, _, ⟨z, rfl, rfl, rfl⟩, fun H2 tb2 => ?_⟩
          have e : (List.range z.cps.size).all (GxR.trF (between "a" "z") z.cps.toList) = nameB (.str z) := by
            rw [text_all]
            show _ = nameS z
            unfold nameS
            rw [decide_eq_true (show 1 ≤ z.length by omega), decide_eq_true (show z.length ≤ 8 by omega), Bool.true_and, Bool.true_and]
          rw [e]
          exact q H2 tb2
        · refine iffT (by rw [decide_eq_false h8]; rfl) ?_
          have e : nameB (.str z) = false := by
            show nameS z = false
            unfold nameS
            rw [decide_eq_false (show ¬ z.length ≤ 8 by omega), Bool.and_false, Bool.false_and]
          rw [e] at q
          exact q _ (tabbed_refl tab)
      · refine iffF (decide_eq_false h1) ?_
        refine ⟨_, rfl, iffT rfl ?_⟩
        have e : nameB (.str z) = false := by
          show nameS z = false
          unfold nameS
          rw [decide_eq_false (show ¬ 1 ≤ z.length by omega), Bool.false_and, Bool.false_and]
        rw [e] at q
        exact q _ (tabbed_refl tab)
    · refine ⟨x, rfl, _, _, _, _, false, rfl, .ty "str", ty, kit, _, rfl, iffT rfl ?_⟩
      have e : nameB x = false := by
        cases x with
        | str z => exact absurd rfl (nz z)
        | _ => rfl
      rw [e] at q
      exact iffT rfl (q _ (tabbed_refl tab))
theorem ok_isContent {f c tb : Addr} {fd : FuncData} {k : Nat} {t4 t37 : Tok} (F : Fun K "is_content" "is_content" sIsContent f fd) (hc : fd.code = .ref c) (TB : GxR.TabB base mg c tb) (T : Bl mg) (m4 : mg "MOST_CHARACTERS" = some (.int 400 t4)) (m37 : mg "PERCENT" = some (.int 37 t37)) :
    FnOk P w K mg base CX0 (k + 1) f fd ["thing"] (spIs K tb contB) := by
  refine okC F hc scC (fun vs H Q E h => ?_) (fun A outer s H vs Q E hr h => ?_)
  · obtain ⟨x, rfl, _⟩ := h
    rfl
  · obtain ⟨x, rfl, tab, th, q⟩ := h
    refine ⟨_, (pss_cons (ps_if (PW.pt (pw_or (pt_not (pt_val (pe_callB call_isi (by rfl) T.isinstance (by decide +kernel) (pa_cons (pv 0) (pa_cons (pe_bltn (v := .ty "str") (by rfl) T.str (by decide +kernel) rfl) pa_nil)))))
          (pw_or1 (pt_cmpR op_gt (pe_callB call_len_str (by rfl) T.len PySem.boot_len (pa_cons (pv 0) pa_nil)) (pe_glob (v := .int 400) rfl m4 ⟨_, rfl⟩) (nomark _)))))
        (pss_one (ps_ret pe_bl)) pss_nil)
      (pss_one (ps_ret (pe_allG hr (by rfl) T.all TB rfl (gen_scope rfl rfl (by decide +kernel) rfl rfl) (pv 0) (genR_text (test_between_ord rfl rfl rfl rfl T.ord m37)))))), ?_⟩
    rcases th with ⟨z, rfl, zl⟩ | ⟨nz, t, ty, kit⟩
    · refine ⟨.str z, rfl, _, _, _, _, true, rfl, .ty "str", .base (.str z), kit_ty (by decide +kernel), _, rfl, iffF rfl ?_⟩
      refine ⟨.str z, rfl, z, rfl, zl, _, 400, rfl, rfl, _, rfl, ?_⟩
      by_cases h4 : (400 : Int) < z.length
      · refine iffT (decide_eq_true h4) ?_
        have e : contB (.str z) = false := by
          show contS z = false
          unfold contS
          rw [decide_eq_false (show ¬ z.length ≤ 400 by omega), Bool.false_and]
        rw [e] at q
        exact q _ (tabbed_refl tab)
      · refine iffF (decide_eq_false h4) ?_
        refine ⟨.str z, rfl, tab, _, _, ⟨z, rfl, rfl, rfl⟩, fun H2 tb2 => ?_⟩
        have e : (List.range z.cps.size).all (GxR.trF (fun c => between " " "~" c && ((c : Int) != 37)) z.cps.toList) = contB (.str z) := by
          rw [text_all]
          show _ = contS z
          unfold contS
          rw [decide_eq_true (show z.length ≤ 400 by omega), Bool.true_and]
        rw [e]
        exact q H2 tb2
    · refine ⟨x, rfl, _, _, _, _, false, rfl, .ty "str", ty, kit, _, rfl, iffT rfl ?_⟩
      have e : contB x = false := by
        cases x with
        | str z => exact absurd rfl (nz z)
        | _ => rfl
      rw [e] at q
      exact iffT rfl (q _ (tabbed_refl tab))
/-! ### the law's own checks -/
abbrev sLawName : Stmt := topS 12
abbrev sLawContent : Stmt := topS 13
theorem scLN : FnScope ["_law_thing", "_law_character"] ["_law_thing"] (defScope sLawName) := ⟨rfl, rfl, rfl, by decide +kernel, rfl, by decide +kernel, by decide +kernel⟩
theorem scLC : FnScope ["_law_thing", "_law_character"] ["_law_thing"] (defScope sLawContent) := ⟨rfl, rfl, rfl, by decide +kernel, rfl, by decide +kernel, by decide +kernel⟩
def spLawIs (K : PySem.W.Frag) (g : V → Bool) : Sp := fun vs H Q _ => ∃ x, vs = [x] ∧ Thing K H x ∧ ∀ H', Same H H' → Q (.bl (g x)) H'
theorem between_az (c : Nat) : between "a" "z" c = decide (c ∈ (Str.ofString "abcdefghijklmnopqrstuvwxyz").cps.toList) := by
  have e1 : (Str.ofString "a").cps.toList = [97] := by decide +kernel
  have e2 : (Str.ofString "z").cps.toList = [122] := by decide +kernel
  have e3 : (Str.ofString "abcdefghijklmnopqrstuvwxyz").cps.toList = [97, 98, 99, 100, 101, 102, 103, 104, 105, 106, 107, 108, 109, 110, 111, 112, 113, 114, 115, 116, 117, 118, 119, 120, 121, 122] := by decide +kernel
  unfold between
  rw [e1, e2, e3, one_lt, one_lt, Bool.eq_iff_iff]
  simp only [Bool.and_eq_true, Bool.not_eq_true', decide_eq_false_iff_not, decide_eq_true_eq, List.mem_cons, List.not_mem_nil, or_false]
  omega
theorem between_sp (c : Nat) : between " " "~" c = (decide ((31 : Int) < c) && decide ((c : Int) < 127)) := by
  have e1 : (Str.ofString " ").cps.toList = [32] := by decide +kernel
  have e2 : (Str.ofString "~").cps.toList = [126] := by decide +kernel
  unfold between
  rw [e1, e2, one_lt, one_lt, Bool.eq_iff_iff]
  simp only [Bool.and_eq_true, Bool.not_eq_true', decide_eq_false_iff_not, decide_eq_true_eq]
  omega
theorem ok_lawName {f : Addr} {fd : FuncData} {k : Nat} (F : Fun K "_law_is_name" "_law_is_name" sLawName f fd) (T : Bl mg) : FnOk P w K mg base CX0 (k + 1) f fd ["_law_thing"] (spLawIs K nameB) := by
  refine F.ok scLN (fun vs H Q E h => ?_) (fun cdv A outer s H vs Q E hr h => ?_)
  · obtain ⟨x, rfl, _⟩ := h
    rfl
  · obtain ⟨x, rfl, th, q⟩ := h
    refine ⟨_, (pss_cons (ps_if (PW.pt (pw_or (pt_not (pt_val (pe_callB call_isi (by rfl) T.isinstance (by decide +kernel) (pa_cons (pv 0) (pa_cons (pe_bltn (v := .ty "str") (by rfl) T.str (by decide +kernel) rfl) pa_nil)))))
          (pw_or (pt_cmpR op_lt (pe_callB call_len_str (by rfl) T.len PySem.boot_len (pa_cons (pv 0) pa_nil)) pe_int (nomark _)) (pw_or1 (pt_cmpR op_gt (pe_callB call_len_str (by rfl) T.len PySem.boot_len (pa_cons (pv 0) pa_nil)) pe_int (nomark _))))))
        (pss_one (ps_ret pe_bl)) pss_nil)
      (pss_one (ps_ret (pe_callB (cr_all rfl) (by rfl) T.all (by decide +kernel) (pa_cons (pe_lc (own := [("_law_character", 1)]) (g := gName 1) (tt := tYes) rfl scLN.nd (pi_str (pv 0)) (blkOk_by (own := [("_law_character", 1)]) (N := ["_law_thing", "_law_character"]) (sc := defScope sLawName) (by decide +kernel)) (fun _ _ _ _ _ => (pg_name (i := 1) scLN.nd rfl (.inl rfl))) (fun _ _ _ _ _ => pts_nil) (fun _ _ _ _ _ => (pe_cmpR op_in_sign (pv 1) pe_str (by rfl)))) pa_nil))))), ?_⟩
    rcases th with ⟨z, rfl, zl⟩ | ⟨nz, t, ty, kit⟩
    · refine ⟨.str z, rfl, _, _, _, _, true, rfl, .ty "str", .base (.str z), kit_ty (by decide +kernel), _, rfl, iffF rfl ?_⟩
      refine ⟨.str z, rfl, z, rfl, zl, _, 1, rfl, rfl, _, rfl, ?_⟩
      by_cases h1 : (z.length : Int) < 1
      · refine iffT (decide_eq_true h1) (iffT rfl ?_)
        have e : nameB (.str z) = false := by
          show nameS z = false
          unfold nameS
          rw [decide_eq_false (show ¬ 1 ≤ z.length by omega), Bool.false_and, Bool.false_and]
        rw [e] at q
        exact q _ (Same.refl _)
      · refine iffF (decide_eq_false h1) ?_
        refine ⟨.str z, rfl, z, rfl, zl, _, 8, rfl, rfl, _, rfl, ?_⟩
        by_cases h8 : (8 : Int) < z.length
        · refine iffT (decide_eq_true h8) ?_
          have e : nameB (.str z) = false := by
            show nameS z = false
            unfold nameS
            rw [decide_eq_false (show ¬ z.length ≤ 8 by omega), Bool.and_false, Bool.false_and]
          rw [e] at q
          exact q _ (Same.refl _)
        · refine iffF (decide_eq_false h8) ?_
          refine ⟨.str z, rfl, z, rfl, fun D nD => ?_⟩
          refine lc_str (a := z) (fun i H2 => H2 D = some (.lst ((((tl z).take i).map (between "a" "z")).map V.bl)) ∧ Same H H2) ?_ ?_ ?_
          · exact ⟨upd_same, same_upd nD⟩
          · rintro i c H2 hc ⟨eD, s2⟩
            refine ⟨rfl, lc_yes ?_⟩
            refine ⟨.str ⟨#[c]⟩, rfl, c, _, rfl, rfl, _, eD, ?_, ?_, ?_⟩
            · rw [List.length_map, List.length_map, List.length_take, tl_len]
              exact Nat.lt_of_le_of_lt (Nat.min_le_right _ _) (small1000 (by omega))
            · rw [upd_same, List.take_add_one, hc, List.map_append, List.map_append, ← between_az]
              rfl
            · exact same_put s2 nD
          · rintro H2 ⟨eD, s2⟩
            have et : (tl z).take z.cps.size = tl z := List.take_of_length_le (by rw [tl_len]; exact Nat.le_refl _)
            rw [et] at eD
            refine ⟨D, _, rfl, SqL.of eD, ?_⟩
            have e : ((tl z).map (between "a" "z")).all id = nameB (.str z) := by
              rw [all_take]
              show _ = nameS z
              unfold nameS
              rw [decide_eq_true (show 1 ≤ z.length by omega), decide_eq_true (show z.length ≤ 8 by omega), Bool.true_and, Bool.true_and]
            rw [e]
            exact q H2 s2
    · refine ⟨x, rfl, _, _, _, _, false, rfl, .ty "str", ty, kit, _, rfl, iffT rfl ?_⟩
      have e : nameB x = false := by
        cases x with
        | str z => exact absurd rfl (nz z)
        | _ => rfl
      rw [e] at q
      exact iffT rfl (q _ (Same.refl _))
theorem ok_lawContent {f : Addr} {fd : FuncData} {k : Nat} (F : Fun K "_law_is_content" "_law_is_content" sLawContent f fd) (T : Bl mg) : FnOk P w K mg base CX0 (k + 1) f fd ["_law_thing"] (spLawIs K contB) := by
  refine F.ok scLC (fun vs H Q E h => ?_) (fun cdv A outer s H vs Q E hr h => ?_)
  · obtain ⟨x, rfl, _⟩ := h
    rfl
  · obtain ⟨x, rfl, th, q⟩ := h
    refine ⟨_, (pss_cons (ps_if (PW.pt (pw_or (pt_not (pt_val (pe_callB call_isi (by rfl) T.isinstance (by decide +kernel) (pa_cons (pv 0) (pa_cons (pe_bltn (v := .ty "str") (by rfl) T.str (by decide +kernel) rfl) pa_nil)))))
          (pw_or1 (pt_cmpR op_gt (pe_callB call_len_str (by rfl) T.len PySem.boot_len (pa_cons (pv 0) pa_nil)) pe_int (nomark _)))))
        (pss_one (ps_ret pe_bl)) pss_nil)
      (pss_one (ps_ret (pe_callB (cr_all rfl) (by rfl) T.all (by decide +kernel) (pa_cons (pe_lc (own := [("_law_character", 1)]) (g := gName 1) (tt := tYes) rfl scLC.nd (pi_str (pv 0)) (blkOk_by (own := [("_law_character", 1)]) (N := ["_law_thing", "_law_character"]) (sc := defScope sLawContent) (by decide +kernel)) (fun _ _ _ _ _ => (pg_name (i := 1) scLC.nd rfl (.inl rfl))) (fun _ _ _ _ _ => pts_nil)
        (fun _ _ _ _ _ => (pe_and (pe_chain op_lt op_lt pe_int (pe_callB call_ord (by rfl) T.ord (by decide +kernel) (pa_cons (pv 1) pa_nil)) pe_int) (pe_one (pe_cmpR op_ne (pe_callB call_ord (by rfl) T.ord (by decide +kernel) (pa_cons (pv 1) pa_nil)) pe_int (nomark _)))))) pa_nil))))), ?_⟩
    rcases th with ⟨z, rfl, zl⟩ | ⟨nz, t, ty, kit⟩
    · refine ⟨.str z, rfl, _, _, _, _, true, rfl, .ty "str", .base (.str z), kit_ty (by decide +kernel), _, rfl, iffF rfl ?_⟩
      refine ⟨.str z, rfl, z, rfl, zl, _, 400, rfl, rfl, _, rfl, ?_⟩
      by_cases h4 : (400 : Int) < z.length
      · refine iffT (decide_eq_true h4) ?_
        have e : contB (.str z) = false := by
          show contS z = false
          unfold contS
          rw [decide_eq_false (show ¬ z.length ≤ 400 by omega), Bool.false_and]
        rw [e] at q
        exact q _ (Same.refl _)
      · refine iffF (decide_eq_false h4) ?_
        refine ⟨.str z, rfl, z, rfl, fun D nD => ?_⟩
        refine lc_str (a := z) (fun i H2 => H2 D = some (.lst ((((tl z).take i).map (fun c => between " " "~" c && ((c : Int) != 37))).map V.bl)) ∧ Same H H2) ?_ ?_ ?_
        · exact ⟨upd_same, same_upd nD⟩
        · rintro i c H2 hc ⟨eD, s2⟩
          have fin : ∃ acc, H2 D = some (.lst acc) ∧ acc.length < sizeLine ∧ (upd H2 D (.lst (acc ++ [.bl (between " " "~" c && ((c : Int) != 37))]))) D = some (.lst ((((tl z).take (i + 1)).map (fun c => between " " "~" c && ((c : Int) != 37))).map V.bl)) ∧ Same H (upd H2 D (.lst (acc ++ [.bl (between " " "~" c && ((c : Int) != 37))]))) := by
            refine ⟨_, eD, ?_, ?_, same_put s2 nD⟩
            · rw [List.length_map, List.length_map, List.length_take, tl_len]
              exact Nat.lt_of_le_of_lt (Nat.min_le_right _ _) (small1000 (by omega))
            · rw [upd_same, List.take_add_one, hc, List.map_append, List.map_append]
              rfl
          refine ⟨rfl, lc_yes ?_⟩
          refine ⟨.str ⟨#[c]⟩, rfl, ⟨#[c]⟩, rfl, rfl, 31, _, rfl, rfl, _, rfl, ?_⟩
          show (if decide ((31 : Int) < c) = true then _ else _)
          by_cases h31 : (31 : Int) < c
          · refine iffT (decide_eq_true h31) ?_
            refine ⟨_, 127, rfl, rfl, _, rfl, ?_⟩
            show (if decide ((c : Int) < 127) = true then _ else _)
            by_cases h127 : (c : Int) < 127
            · refine iffT (decide_eq_true h127) ?_
              refine ⟨.str ⟨#[c]⟩, rfl, ⟨#[c]⟩, rfl, rfl, rfl, ?_⟩
              have e : (!decide (V.int (c : Int) = .int 37)) = (between " " "~" c && ((c : Int) != 37)) := by
                rw [between_sp, decide_eq_true h31, decide_eq_true h127, Bool.true_and, Bool.true_and]
                by_cases h37 : (c : Int) = 37
                · rw [h37]
                  rfl
                · rw [decide_eq_false (fun z => h37 (V.int.inj z))]
                  exact (bne_iff_ne.mpr h37).symm
              rw [← e] at fin
              exact fin
            · refine iffF (decide_eq_false h127) ?_
              rw [between_sp, decide_eq_false h127, Bool.and_false, Bool.false_and] at fin
              exact fin
          · refine iffF (decide_eq_false h31) ?_
            refine ⟨_, rfl, iffF rfl ?_⟩
            rw [between_sp, decide_eq_false h31, Bool.false_and, Bool.false_and] at fin
            exact fin
        · rintro H2 ⟨eD, s2⟩
          have et : (tl z).take z.cps.size = tl z := List.take_of_length_le (by rw [tl_len]; exact Nat.le_refl _)
          rw [et] at eD
          refine ⟨D, _, rfl, SqL.of eD, ?_⟩
          have e : ((tl z).map (fun c => between " " "~" c && ((c : Int) != 37))).all id = contB (.str z) := by
            rw [all_take]
            show _ = contS z
            unfold contS
            rw [decide_eq_true (show z.length ≤ 400 by omega), Bool.true_and]
          rw [e]
          exact q H2 s2
    · refine ⟨x, rfl, _, _, _, _, false, rfl, .ty "str", ty, kit, _, rfl, iffT rfl ?_⟩
      have e : contB x = false := by
        cases x with
        | str z => exact absurd rfl (nz z)
        | _ => rfl
      rw [e] at q
      exact iffT rfl (q _ (Same.refl _))
end
end Cu

namespace Cu
open PySem PySem.Spec PyProof.Rows L2
/-- the two tables may have grown, all else that stood stands -/
structure Tabs2 (pn pc : Addr) (H H' : Hp) : Prop where
  keep : ∀ b o, b ≠ pn → b ≠ pc → H b = some o → H' b = some o
  tn : GxR.TabG H' pn
  tc : GxR.TabG H' pc
theorem Tabs2.refl {pn pc : Addr} {H : Hp} (h1 : GxR.TabG H pn) (h2 : GxR.TabG H pc) : Tabs2 pn pc H H := ⟨fun _ _ _ _ e => e, h1, h2⟩
theorem Tabs2.trans {pn pc : Addr} {H H1 H2 : Hp} (a : Tabs2 pn pc H H1) (b : Tabs2 pn pc H1 H2) : Tabs2 pn pc H H2 := ⟨fun x o n1 n2 e => b.keep x o n1 n2 (a.keep x o n1 n2 e), b.tn, b.tc⟩
theorem tabG_same {H H' : Hp} {p : Addr} (s : Same H H') (h : GxR.TabG H p) : GxR.TabG H' p := by
  obtain ⟨ps, e, t⟩ := h
  exact ⟨ps, s _ _ e, t⟩
theorem tabG_upto {H H' : Hp} {p a : Addr} (s : Upto a H H') (n : p ≠ a) (h : GxR.TabG H p) : GxR.TabG H' p := by
  obtain ⟨ps, e, t⟩ := h
  exact ⟨ps, s _ _ n e, t⟩
theorem Tabs2.same {pn pc : Addr} {H H' : Hp} (s : Same H H') (h1 : GxR.TabG H pn) (h2 : GxR.TabG H pc) : Tabs2 pn pc H H' := ⟨fun b o _ _ e => s b o e, tabG_same s h1, tabG_same s h2⟩
theorem tabG_at {H H' : Hp} {p : Addr} (e : H' p = H p) (h : GxR.TabG H p) : GxR.TabG H' p := by
  obtain ⟨ps, z, t⟩ := h
  exact ⟨ps, e.trans z, t⟩
theorem Tabs2.left {pn pc : Addr} {H H' : Hp} (np : pn ≠ pc) (t : GxR.Tabbed pn H H') (h2 : GxR.TabG H pc) : Tabs2 pn pc H H' := ⟨fun b o n1 _ e => (t.2 b n1).trans e, t.1, tabG_at (t.2 pc np.symm) h2⟩
theorem Tabs2.right {pn pc : Addr} {H H' : Hp} (np : pn ≠ pc) (t : GxR.Tabbed pc H H') (h1 : GxR.TabG H pn) : Tabs2 pn pc H H' := ⟨fun b o _ n2 e => (t.2 b n2).trans e, tabG_at (t.2 pn np) h1, t.1⟩
theorem Tabs2.stays {pn pc : Addr} {H H' : Hp} (t : Tabs2 pn pc H H') (h1 : GxR.TabG H pn) (h2 : GxR.TabG H pc) : Stays H H' := by
  intro b o e k
  obtain ⟨ps, e1, _⟩ := h1
  obtain ⟨qs, e2, _⟩ := h2
  refine t.keep b o ?_ ?_ e
  · intro z
    rw [z, e1] at e
    cases e
    rcases k with ⟨_, z⟩ | ⟨_, z⟩ | ⟨_, z⟩ <;> cases z
  · intro z
    rw [z, e2] at e
    cases e
    rcases k with ⟨_, z⟩ | ⟨_, z⟩ | ⟨_, z⟩ <;> cases z
theorem thing_of {K : PySem.W.Frag} {H : Hp} {x : V} {d : PyData} (h : Dx H x d) (l : ∀ z, x = .str z → z.length ≤ sizeLine) : Thing K H x := by
  cases h with
  | str z => exact .inl ⟨z, rfl, l z rfl⟩
  | non => exact .inr ⟨fun z e => (nomatch e), _, .base .non, kit_ty (by decide +kernel)⟩
  | bl b => exact .inr ⟨fun z e => (nomatch e), _, .base (.bl b), kit_ty (by decide +kernel)⟩
  | int i => exact .inr ⟨fun z e => (nomatch e), _, .base (.int i), kit_ty (by decide +kernel)⟩
  | lst e _ => exact .inr ⟨fun z e => (nomatch e), _, .base (.lst e), kit_ty (by decide +kernel)⟩
  | tup e _ => exact .inr ⟨fun z e => (nomatch e), _, .base (.tup e), kit_ty (by decide +kernel)⟩
  | dct e _ => exact .inr ⟨fun z e => (nomatch e), _, .base (.dK e), kit_ty (by decide +kernel)⟩
/-! ### texts: repetition, joins of single signs -/
section
variable {X : Cx}
def rMulS : R2 := fun x y H Q => ∃ (z : Str) (n : Nat), x = .str z ∧ y = .int (n : Int) ∧ 2 ≤ n ∧ n ≤ 1000 ∧ z.length ≤ 1000 ∧ ∀ r : Str, tl r = (List.replicate n (tl z)).flatten → Q (.str r) H
theorem fold_cat : ∀ (l : List (Array Nat)) (acc : Array Nat), (l.foldl (· ++ ·) acc).toList = acc.toList ++ (l.map Array.toList).flatten
  | [], acc => by simp
  | a :: r, acc => by
    rw [List.foldl_cons, fold_cat r (acc ++ a), Array.toList_append, List.map_cons, List.flatten_cons, List.append_assoc]
theorem flat_nil (n : Nat) : (List.replicate n ([] : List Nat)).flatten = [] := by
  induction n with
  | zero => rfl
  | succ n ih => rw [List.replicate_succ, List.flatten_cons, ih]; rfl
theorem op_mulS : OpR X (binaryOp .Mult) rMulS := by
  intro pins s σ H x y v u Q I rx ry h
  obtain ⟨z, n, rfl, rfl, n2, n1, zl, q⟩ := h
  obtain ⟨t, rfl⟩ := rx
  obtain ⟨t', rfl⟩ := ry
  have big : z.length * n ≤ 1000000 := Nat.le_trans (Nat.mul_le_mul zl n1) (by decide)
  refine SB.mul ⟨?_, ?_, ?_⟩ ?_
  · rw [Bool.or_eq_false_iff]
    exact ⟨decide_eq_false (by omega), decide_eq_false (by omega)⟩
  · intro _ _ gt
    have : ((2 : Int) ^ 63 - 1) / (n : Int) ≥ 1000 := Int.le_ediv_of_mul_le (by omega) (by omega)
    omega
  · intro _ _
    have e : Builtin.Str.tooLong (z.length * (n : Int).toNat) = decide (z.length * (n : Int).toNat > 16777216) := rfl
    rw [e, Int.toNat_natCast]
    exact decide_eq_false (by omega)
  · intro t2 k
    refine ⟨.str _, H, I.tok k, ⟨t2, rfl⟩, q _ ?_⟩
    unfold Txt.mul
    rw [if_neg (show ¬ (n : Int) < 1 by omega)]
    by_cases hz : z.length = 0
    · rw [if_pos (by rw [hz]; simp)]
      have e : tl z = [] := List.eq_nil_of_length_eq_zero (by rw [tl_len]; exact hz)
      rw [e, flat_nil]
    · rw [if_neg (by simp; omega)]
      show ((List.replicate (n : Int).toNat z.cps).foldl (· ++ ·) #[]).toList = _
      rw [fold_cat, Int.toNat_natCast, List.map_replicate]
      rfl
end
theorem ones_join : ∀ zs : List Str, (∀ y ∈ zs, y.length = 1 ∧ Asc y) → (zs.map (·.length)).sum = zs.length ∧ ((zs.map tl).flatten).length = zs.length ∧ ∀ c ∈ (zs.map tl).flatten, c < 128
  | [], _ => ⟨rfl, rfl, fun c m => (nomatch m)⟩
  | y :: r, hz => by
    obtain ⟨i1, i2, i3⟩ := ones_join r fun v m => hz v (List.mem_cons_of_mem _ m)
    obtain ⟨j1, j2⟩ := hz y List.mem_cons_self
    refine ⟨?_, ?_, fun c mc => ?_⟩
    · rw [List.map_cons, List.sum_cons, i1, j1, List.length_cons]
      omega
    · rw [List.map_cons, List.flatten_cons, List.length_append, i2, tl_len, j1, List.length_cons]
      omega
    · rw [List.map_cons, List.flatten_cons] at mc
      rcases List.mem_append.mp mc with mc | mc
      · exact j2 c mc
      · exact i3 c mc
theorem rep_len (n : Nat) (l : List Nat) : (List.replicate n l).flatten.length = n * l.length := by
  induction n with
  | zero => rw [Nat.zero_mul]; rfl
  | succ n ih => rw [List.replicate_succ, List.flatten_cons, List.length_append, ih, Nat.succ_mul, Nat.add_comm]
theorem rep_mem {n : Nat} {l : List Nat} {c : Nat} (h : c ∈ (List.replicate n l).flatten) : c ∈ l := by
  obtain ⟨x, m1, m2⟩ := List.mem_flatten.mp h
  rw [List.eq_of_mem_replicate m1] at m2
  exact m2
theorem rep_asc {n : Nat} {z r : Str} (h : tl r = (List.replicate n (tl z)).flatten) (a : Asc z) : Asc r := fun c m => a c (rep_mem (h ▸ m))
theorem rep_length {n : Nat} {z r : Str} (h : tl r = (List.replicate n (tl z)).flatten) : r.length = n * z.length := by
  rw [← tl_len, h, rep_len, tl_len]
def ascB (z : Str) : Bool := z.cps.toList.all (fun c => decide (c < 128))
theorem asc_b {z : Str} (h : ascB z = true) : Asc z := fun c m => of_decide_eq_true (List.all_eq_true.mp h c m)
theorem strs_mem {zs : List Str} {v : V} (m : v ∈ zs.map V.str) : ∃ z, z ∈ zs ∧ v = .str z := by
  obtain ⟨z, h1, h2⟩ := List.mem_map.mp m
  exact ⟨z, h1, h2.symm⟩
theorem stays_of {F H : Hp} (s : Same F H) : Stays F H := fun b o e _ => s b o e
theorem same_both {F H : Hp} {p : Addr} {o : HO} (s : Same F H) (n : H p = none) : Same (upd F p o) (upd H p o) := fun b x e => by
  by_cases z : b = p
  · subst z
    rw [upd_same] at e ⊢
    exact e
  · rw [upd_ne z] at e ⊢
    exact s b x e
end Cu

namespace Cu
open PySem PySem.Spec PyProof.Rows L2
/-! ### edits, by their data -/
def nameD : PyData → Bool
  | .str z => nameS z
  | _ => false
def contD : PyData → Bool
  | .str z => contS z
  | _ => false
def posD : PyData → Bool
  | .int i => decide (0 ≤ i)
  | _ => false
def editD : PyData → Bool
  | .tuple [a, b, c, e] => nameD a && (posD b && (contD c && contD e))
  | _ => false
def tyN : PyData → String
  | .none => "NoneType"
  | .bool _ => "bool"
  | .int _ => "int"
  | .str _ => "str"
  | .list _ => "list"
  | .tuple _ => "tuple"
  | .dict _ => "dict"
theorem ty_of {K : PySem.W.Frag} {H : Hp} {x : V} {d : PyData} (h : Dx H x d) : TyX K H x (.type (tyN d)) := by
  cases h with
  | str z => exact .base (.str z)
  | non => exact .base .non
  | bl b => exact .base (.bl b)
  | int i => exact .base (.int i)
  | lst e _ => exact .base (.lst e)
  | tup e _ => exact .base (.tup e)
  | dct e _ => exact .base (.dK e)
def isTupD : PyData → Bool
  | .tuple _ => true
  | _ => false
def isIntD : PyData → Bool
  | .int _ => true
  | .bool _ => true
  | _ => false
def isBoolD : PyData → Bool
  | .bool _ => true
  | _ => false
theorem kit_tup {K : PySem.W.Frag} (d : PyData) : PySem.W.kitOne K (.type (tyN d)) (.type "tuple") = some (isTupD d) := by
  cases d with
  | none => exact kit_ty (show kitB "NoneType" "tuple" = some false by decide +kernel)
  | bool _ => exact kit_ty (show kitB "bool" "tuple" = some false by decide +kernel)
  | int _ => exact kit_ty (show kitB "int" "tuple" = some false by decide +kernel)
  | str _ => exact kit_ty (show kitB "str" "tuple" = some false by decide +kernel)
  | list _ => exact kit_ty (show kitB "list" "tuple" = some false by decide +kernel)
  | tuple _ => exact kit_ty (show kitB "tuple" "tuple" = some true by decide +kernel)
  | dict _ => exact kit_ty (show kitB "dict" "tuple" = some false by decide +kernel)
theorem kit_int {K : PySem.W.Frag} (d : PyData) : PySem.W.kitOne K (.type (tyN d)) (.type "int") = some (isIntD d) := by
  cases d with
  | none => exact kit_ty (show kitB "NoneType" "int" = some false by decide +kernel)
  | bool _ => exact kit_ty (show kitB "bool" "int" = some true by decide +kernel)
  | int _ => exact kit_ty (show kitB "int" "int" = some true by decide +kernel)
  | str _ => exact kit_ty (show kitB "str" "int" = some false by decide +kernel)
  | list _ => exact kit_ty (show kitB "list" "int" = some false by decide +kernel)
  | tuple _ => exact kit_ty (show kitB "tuple" "int" = some false by decide +kernel)
  | dict _ => exact kit_ty (show kitB "dict" "int" = some false by decide +kernel)
theorem kit_bool {K : PySem.W.Frag} (d : PyData) : PySem.W.kitOne K (.type (tyN d)) (.type "bool") = some (isBoolD d) := by
  cases d with
  | none => exact kit_ty (show kitB "NoneType" "bool" = some false by decide +kernel)
  | bool _ => exact kit_ty (show kitB "bool" "bool" = some true by decide +kernel)
  | int _ => exact kit_ty (show kitB "int" "bool" = some false by decide +kernel)
  | str _ => exact kit_ty (show kitB "str" "bool" = some false by decide +kernel)
  | list _ => exact kit_ty (show kitB "list" "bool" = some false by decide +kernel)
  | tuple _ => exact kit_ty (show kitB "tuple" "bool" = some false by decide +kernel)
  | dict _ => exact kit_ty (show kitB "dict" "bool" = some false by decide +kernel)
theorem nameB_D {H : Hp} {x : V} {d : PyData} (h : Dx H x d) : nameB x = nameD d := by cases h <;> rfl
theorem contB_D {H : Hp} {x : V} {d : PyData} (h : Dx H x d) : contB x = contD d := by cases h <;> rfl
/-- a thing whose texts (its own, those right inside a tuple) are not too long -/
structure Fit (H : Hp) (x : V) (d : PyData) : Prop where
  dx : Dx H x d
  top : ∀ z, x = .str z → z.length ≤ sizeLine
  inn : ∀ a xs, x = .ref a → H a = some (.tup xs) → ∀ y ∈ xs, ∀ z, y = .str z → z.length ≤ sizeLine
theorem dx_get {H : Hp} : ∀ {xs : List V} {ds : List PyData} {i : Nat} {d : PyData}, DxAll H xs ds → ds[i]? = some d → ∃ x, xs[i]? = some x ∧ Dx H x d
  | _, _, _, _, .nil, e => by cases e
  | _, _, 0, _, .cons h _, e => by
    cases Option.some.inj e
    exact ⟨_, rfl, h⟩
  | _, _, i + 1, _, .cons _ t, e => dx_get (i := i) t e
theorem dx_len {H : Hp} : ∀ {xs : List V} {ds : List PyData}, DxAll H xs ds → xs.length = ds.length
  | _, _, .nil => rfl
  | _, _, .cons _ t => by rw [List.length_cons, List.length_cons, dx_len t]
abbrev sIsPos : Stmt := topS 6
abbrev sIsEdit : Stmt := topS 7
abbrev sLawEdit : Stmt := topS 14
theorem scPo : FnScope ["thing"] ["thing"] (defScope sIsPos) := ⟨rfl, rfl, rfl, by decide +kernel, rfl, by decide +kernel, by decide +kernel⟩
theorem scE : FnScope ["thing", "document", "position", "removed", "inserted"] ["thing"] (defScope sIsEdit) := ⟨rfl, rfl, rfl, by decide +kernel, rfl, by decide +kernel, by decide +kernel⟩
theorem scLE : FnScope ["_law_thing"] ["_law_thing"] (defScope sLawEdit) := ⟨rfl, rfl, rfl, by decide +kernel, rfl, by decide +kernel, by decide +kernel⟩
section
variable {P : Program} {w : World} {K : PySem.W.Frag} {mg : Str → Option Value} {base : Heap}
def spPos : Sp := fun vs H Q _ => ∃ x d, vs = [x] ∧ Dx H x d ∧ Q (.bl (posD d)) H
theorem ok_isPos {f : Addr} {fd : FuncData} {k : Nat} (F : Fun K "is_position" "is_position" sIsPos f fd) (T : Bl mg) : FnOk P w K mg base CX0 (k + 1) f fd ["thing"] spPos := by
  refine F.ok scPo (fun vs H Q E h => ?_) (fun cdv A outer s H vs Q E hr h => ?_)
  · obtain ⟨x, d, rfl, _⟩ := h
    rfl
  · obtain ⟨x, d, rfl, dx, q⟩ := h
    refine ⟨_, (pss_one (ps_ret (pe_and (pe_callB call_isi (by rfl) T.isinstance (by decide +kernel) (pa_cons (pv 0) (pa_cons (pe_bltn (v := .ty "int") (by rfl) T.int (by decide +kernel) rfl) pa_nil))) (pe_and (pe_not (pe_callB call_isi (by rfl) T.isinstance (by decide +kernel) (pa_cons (pv 0) (pa_cons (pe_bltn (v := .ty "bool") (by rfl) T.bool (by decide +kernel) rfl) pa_nil)))) (pe_one (pe_cmpR op_ge (pv 0) pe_int (nomark _))))))), ?_⟩
    refine ⟨x, rfl, _, _, _, _, _, rfl, .ty "int", ty_of dx, kit_int d, _, rfl, ?_⟩
    cases dx with
    | int i =>
      refine iffT rfl ⟨.int i, rfl, _, _, _, _, _, rfl, .ty "bool", ty_of (.int i), kit_bool (.int i), _, rfl, _, rfl, iffT rfl ?_⟩
      exact ⟨.int i, rfl, i, 0, rfl, rfl, q⟩
    | bl b => exact iffT rfl ⟨.bl b, rfl, _, _, _, _, _, rfl, .ty "bool", ty_of (.bl b), kit_bool (.bool b), _, rfl, _, rfl, iffF rfl q⟩
    | non => exact iffF rfl q
    | str z => exact iffF rfl q
    | lst e t => exact iffF rfl q
    | tup e t => exact iffF rfl q
    | dct e t => exact iffF rfl q
def spEdit (pn pc : Addr) : Sp := fun vs H Q _ => ∃ x d, vs = [x] ∧ Fit H x d ∧ GxR.TabG H pn ∧ GxR.TabG H pc ∧ ∀ H', Tabs2 pn pc H H' → Q (.bl (editD d)) H'
theorem editD_len {ds : List PyData} (h : ds.length ≠ 4) : editD (.tuple ds) = false := by
  match ds, h with
  | [], _ => rfl
  | [_], _ => rfl
  | [_, _], _ => rfl
  | [_, _, _], _ => rfl
  | [_, _, _, _], h => exact absurd rfl h
  | _ :: _ :: _ :: _ :: _ :: _, _ => rfl
theorem ok_isEdit {f fN fC fPo pn pc : Addr} {fd fdN fdC fdPo : FuncData} (F : Fun K "is_edit" "is_edit" sIsEdit f fd) (np : pn ≠ pc) (DN : Df K mg "is_name" sIsName ["thing"] fN fdN) (DC : Df K mg "is_content" sIsContent ["thing"] fC fdC) (DPo : Df K mg "is_position" sIsPos ["thing"] fPo fdPo)
    (GN : FnOk P w K mg base CX0 1 fN fdN ["thing"] (spIs K pn nameB)) (GC : FnOk P w K mg base CX0 1 fC fdC ["thing"] (spIs K pc contB)) (T : Bl mg) : FnOk P w K mg base CX0 2 f fd ["thing"] (spEdit pn pc) := by
  have GPo : FnOk P w K mg base CX0 1 fPo fdPo _ spPos := ok_isPos DPo.F T
  refine F.ok scE (fun vs H Q E h => ?_) (fun cdv A outer s H vs Q E hr h => ?_)
  · obtain ⟨x, d, rfl, _⟩ := h
    rfl
  · obtain ⟨x, d, rfl, ⟨dx, top, inn⟩, tn, tc, q⟩ := h
    refine ⟨_, (pss_cons (ps_if (PW.pt (pw_or (pt_not (pt_val (pe_callB call_isi (by rfl) T.isinstance (by decide +kernel) (pa_cons (pv 0) (pa_cons (pe_bltn (v := .ty "tuple") (by rfl) T.tuple (by decide +kernel) rfl) pa_nil))))) (pw_or1 (pt_cmpR op_ne (pe_callB call_len_seq (by rfl) T.len PySem.boot_len (pa_cons (pv 0) pa_nil)) pe_int (nomark _)))))
  (pss_one (ps_ret pe_bl))
  pss_nil)
  (pss_cons (ps_asg (pv 0) (pg_tup rfl (pgs_cons (pg_name (i := 1) scE.nd rfl (.inl rfl)) (pgs_cons (pg_name (i := 2) scE.nd rfl (.inl rfl)) (pgs_cons (pg_name (i := 3) scE.nd rfl (.inl rfl)) (pgs_cons (pg_name (i := 4) scE.nd rfl (.inl rfl)) pgs_nil))))))
  (pss_one (ps_ret (pe_and (pe_call GN hr (by rfl) DN.g DN.F.kp DN.b .nil pass0 (pa_cons (pv 1) pa_nil)) (pe_and (pe_call GPo hr (by rfl) DPo.g DPo.F.kp DPo.b .nil pass0 (pa_cons (pv 2) pa_nil)) (pe_and (pe_call GC hr (by rfl) DC.g DC.F.kp DC.b .nil pass0 (pa_cons (pv 3) pa_nil)) (pe_one (pe_call GC hr (by rfl) DC.g DC.F.kp DC.b .nil pass0 (pa_cons (pv 4) pa_nil)))))))))), ?_⟩
    refine ⟨x, rfl, _, _, _, _, _, rfl, .ty "tuple", ty_of dx, kit_tup d, _, rfl, ?_⟩
    cases dx with
    | int i => exact iffT rfl (iffT rfl (q _ (.refl tn tc)))
    | bl b => exact iffT rfl (iffT rfl (q _ (.refl tn tc)))
    | non => exact iffT rfl (iffT rfl (q _ (.refl tn tc)))
    | str z => exact iffT rfl (iffT rfl (q _ (.refl tn tc)))
    | lst e t => exact iffT rfl (iffT rfl (q _ (.refl tn tc)))
    | dct e t => exact iffT rfl (iffT rfl (q _ (.refl tn tc)))
    | @tup a xs ds e t =>
      refine iffF rfl ⟨.ref a, rfl, a, xs, rfl, .inr (SqT.of e), rfl, _, rfl, ?_⟩
      by_cases h4 : xs.length = 4
      · refine iffF (by rw [h4]; decide) ?_
        refine ⟨.ref a, rfl, a, xs, rfl, SqT.of e, h4, ?_⟩
        match xs, ds, e, t, h4, inn with
        | [x1, x2, x3, x4], [d1, d2, d3, d4], e, .cons k1 (.cons k2 (.cons k3 (.cons k4 .nil))), _, inn =>
          have l : ∀ y ∈ [x1, x2, x3, x4], ∀ z, y = .str z → z.length ≤ sizeLine := inn a _ rfl e
          refine ⟨_, _, rfl, _, _, rfl, _, _, rfl, _, _, rfl, rfl, ?_⟩
          refine ⟨x1, rfl, x1, rfl, tn, thing_of k1 (l x1 (by simp)), fun H1 t1 => ⟨_, rfl, ?_⟩⟩
          have m1 := Tabs2.left np t1 tc
          rw [nameB_D k1]
          cases hn : nameD d1 with
          | false =>
            refine iffF rfl ?_
            have q' := q _ m1
            simp only [editD, hn, Bool.false_and] at q'
            exact q'
          | true =>
            refine iffT rfl ?_
            have j2 := Dx.stays (m1.stays tn tc) _ _ k2
            have j3 := Dx.stays (m1.stays tn tc) _ _ k3
            refine ⟨x2, rfl, x2, d2, rfl, j2, _, rfl, ?_⟩
            cases hp : posD d2 with
            | false =>
              refine iffF rfl ?_
              have q' := q _ m1
              simp only [editD, hn, hp, Bool.true_and, Bool.false_and] at q'
              exact q'
            | true =>
              refine iffT rfl ?_
              refine ⟨x3, rfl, x3, rfl, m1.tc, thing_of j3 (l x3 (by simp)), fun H2 t2 => ⟨_, rfl, ?_⟩⟩
              have m2 := m1.trans (Tabs2.right np t2 m1.tn)
              rw [contB_D k3]
              cases hc : contD d3 with
              | false =>
                refine iffF rfl ?_
                have q' := q _ m2
                simp only [editD, hn, hp, hc, Bool.true_and, Bool.false_and] at q'
                exact q'
              | true =>
                refine iffT rfl ?_
                have j4 := Dx.stays (m2.stays tn tc) _ _ k4
                refine ⟨x4, rfl, x4, rfl, m2.tc, thing_of j4 (l x4 (by simp)), fun H3 t3 => ?_⟩
                have m3 := m2.trans (Tabs2.right np t3 m2.tn)
                rw [contB_D k4]
                have q' := q _ m3
                simp only [editD, hn, hp, hc, Bool.true_and] at q'
                exact q'
      · refine iffT ?_ ?_
        · have : ¬ (V.int (xs.length : Int) = .int 4) := fun z => h4 (by have := V.int.inj z; omega)
          rw [decide_eq_false this]
          rfl
        · rw [editD_len (by rw [← dx_len t]; exact h4)] at q
          exact q _ (.refl tn tc)
end
end Cu

namespace Cu
open PySem PySem.Spec PyProof.Rows L2
section
variable {P : Program} {w : World} {K : PySem.W.Frag} {mg : Str → Option Value} {base : Heap}
def spLawEdit : Sp := fun vs H Q _ => ∃ x d, vs = [x] ∧ Fit H x d ∧ ∀ H', Same H H' → Q (.bl (editD d)) H'
theorem ok_lawEdit {f fN fC : Addr} {fd fdN fdC : FuncData} (F : Fun K "_law_is_edit" "_law_is_edit" sLawEdit f fd) (DLN : Df K mg "_law_is_name" sLawName ["_law_thing"] fN fdN) (DLC : Df K mg "_law_is_content" sLawContent ["_law_thing"] fC fdC) (T : Bl mg) :
    FnOk P w K mg base CX0 2 f fd ["_law_thing"] spLawEdit := by
  have GLN : FnOk P w K mg base CX0 1 fN fdN _ (spLawIs K nameB) := ok_lawName DLN.F T
  have GLC : FnOk P w K mg base CX0 1 fC fdC _ (spLawIs K contB) := ok_lawContent DLC.F T
  refine F.ok scLE (fun vs H Q E h => ?_) (fun cdv A outer s H vs Q E hr h => ?_)
  · obtain ⟨x, d, rfl, _⟩ := h
    rfl
  · obtain ⟨x, d, rfl, ⟨dx, top, inn⟩, q⟩ := h
    refine ⟨_, (pss_cons (ps_if (PW.pt (pw_or (pt_not (pt_val (pe_callB call_isi (by rfl) T.isinstance (by decide +kernel) (pa_cons (pv 0) (pa_cons (pe_bltn (v := .ty "tuple") (by rfl) T.tuple (by decide +kernel) rfl) pa_nil))))) (pw_or (pt_cmpR op_ne (pe_callB call_len_seq (by rfl) T.len PySem.boot_len (pa_cons (pv 0) pa_nil)) pe_int (nomark _)) (pw_or1 (pt_not (pt_val (pe_call GLN hr (by rfl) DLN.g DLN.F.kp DLN.b .nil pass0 (pa_cons (pe_ix ix_tup (pv 0) pe_int (fun _ _ => rfl)) pa_nil))))))))
  (pss_one (ps_ret pe_bl))
  pss_nil)
  (pss_cons (ps_if (PW.pt (pw_or (pt_not (pt_val (pe_callB call_isi (by rfl) T.isinstance (by decide +kernel) (pa_cons (pe_ix ix_tup (pv 0) pe_int (fun _ _ => rfl)) (pa_cons (pe_bltn (v := .ty "int") (by rfl) T.int (by decide +kernel) rfl) pa_nil))))) (pw_or (pt_val (pe_callB call_isi (by rfl) T.isinstance (by decide +kernel) (pa_cons (pe_ix ix_tup (pv 0) pe_int (fun _ _ => rfl)) (pa_cons (pe_bltn (v := .ty "bool") (by rfl) T.bool (by decide +kernel) rfl) pa_nil)))) (pw_or1 (pt_cmpR op_lt (pe_ix ix_tup (pv 0) pe_int (fun _ _ => rfl)) pe_int (nomark _))))))
  (pss_one (ps_ret pe_bl))
  pss_nil)
  (pss_one (ps_ret (pe_and (pe_call GLC hr (by rfl) DLC.g DLC.F.kp DLC.b .nil pass0 (pa_cons (pe_ix ix_tup (pv 0) pe_int (fun _ _ => rfl)) pa_nil)) (pe_one (pe_call GLC hr (by rfl) DLC.g DLC.F.kp DLC.b .nil pass0 (pa_cons (pe_ix ix_tup (pv 0) pe_int (fun _ _ => rfl)) pa_nil)))))))), ?_⟩
    refine ⟨x, rfl, _, _, _, _, _, rfl, .ty "tuple", ty_of dx, kit_tup d, _, rfl, ?_⟩
    cases dx with
    | int i => exact iffT rfl (iffT rfl (q _ (Same.refl _)))
    | bl b => exact iffT rfl (iffT rfl (q _ (Same.refl _)))
    | non => exact iffT rfl (iffT rfl (q _ (Same.refl _)))
    | str z => exact iffT rfl (iffT rfl (q _ (Same.refl _)))
    | lst e t => exact iffT rfl (iffT rfl (q _ (Same.refl _)))
    | dct e t => exact iffT rfl (iffT rfl (q _ (Same.refl _)))
    | @tup a xs ds e t =>
      refine iffF rfl ⟨.ref a, rfl, a, xs, rfl, .inr (SqT.of e), rfl, _, rfl, ?_⟩
      by_cases h4 : xs.length = 4
      · refine iffF (by rw [h4]; decide) ?_
        match xs, ds, e, t, h4, inn with
        | [x1, x2, x3, x4], [d1, d2, d3, d4], e, .cons k1 (.cons k2 (.cons k3 (.cons k4 .nil))), _, inn =>
          have l : ∀ y ∈ [x1, x2, x3, x4], ∀ z, y = .str z → z.length ≤ sizeLine := inn a _ rfl e
          refine ⟨.ref a, rfl, a, _, 0, x1, rfl, rfl, SqT.of e, rfl, x1, rfl, thing_of k1 (l x1 (by simp)), fun H1 s1 => ⟨_, rfl, ?_⟩⟩
          rw [nameB_D k1]
          cases hn : nameD d1 with
          | false =>
            refine iffT rfl ?_
            have q' := q _ s1
            simp only [editD, hn, Bool.false_and] at q'
            exact q'
          | true =>
            refine iffF rfl ?_
            have e1 := s1 _ _ e
            have j2 := Dx.stays (stays_of s1) _ _ k2
            refine ⟨.ref a, rfl, a, _, 1, x2, rfl, rfl, SqT.of e1, rfl, _, _, _, _, _, rfl, .ty "int", ty_of j2, kit_int d2, _, rfl, ?_⟩
            have no : posD d2 = false → Q (.bl false) H1 := fun hp => by
              have q' := q _ s1
              simp only [editD, hn, hp, Bool.true_and, Bool.false_and] at q'
              exact q'
            cases j2 with
            | bl b => exact iffF rfl ⟨.ref a, rfl, a, _, 1, _, rfl, rfl, SqT.of e1, rfl, _, _, _, _, _, rfl, .ty "bool", ty_of (.bl b), kit_bool (.bool b), _, rfl, iffT rfl (iffT rfl (no rfl))⟩
            | non => exact iffT rfl (iffT rfl (no rfl))
            | str z => exact iffT rfl (iffT rfl (no rfl))
            | lst _ _ => exact iffT rfl (iffT rfl (no rfl))
            | tup _ _ => exact iffT rfl (iffT rfl (no rfl))
            | dct _ _ => exact iffT rfl (iffT rfl (no rfl))
            | int i =>
              refine iffF rfl ⟨.ref a, rfl, a, _, 1, _, rfl, rfl, SqT.of e1, rfl, _, _, _, _, _, rfl, .ty "bool", ty_of (.int i), kit_bool (.int i), _, rfl, iffF rfl ?_⟩
              refine ⟨.ref a, rfl, a, _, 1, _, rfl, rfl, SqT.of e1, rfl, i, 0, rfl, rfl, _, rfl, ?_⟩
              by_cases h0 : i < 0
              · refine iffT (decide_eq_true h0) (no ?_)
                exact decide_eq_false (by omega)
              · refine iffF (decide_eq_false h0) ?_
                have hp : posD (.int i) = true := decide_eq_true (by omega)
                have j3 := Dx.stays (stays_of s1) _ _ k3
                refine ⟨.ref a, rfl, a, _, 2, x3, rfl, rfl, SqT.of e1, rfl, x3, rfl, thing_of j3 (l x3 (by simp)), fun H2 s2 => ⟨_, rfl, ?_⟩⟩
                rw [contB_D k3]
                cases hc : contD d3 with
                | false =>
                  refine iffF rfl ?_
                  have q' := q _ (s1.trans s2)
                  simp only [editD, hn, hp, hc, Bool.true_and, Bool.false_and] at q'
                  exact q'
                | true =>
                  refine iffT rfl ?_
                  have j4 := Dx.stays (stays_of (s1.trans s2)) _ _ k4
                  refine ⟨.ref a, rfl, a, _, 3, x4, rfl, rfl, SqT.of (s2 _ _ e1), rfl, x4, rfl, thing_of j4 (l x4 (by simp)), fun H3 s3 => ?_⟩
                  rw [contB_D k4]
                  have q' := q _ ((s1.trans s2).trans s3)
                  simp only [editD, hn, hp, hc, Bool.true_and] at q'
                  exact q'
      · refine iffT ?_ (iffT rfl ?_)
        · have : ¬ (V.int (xs.length : Int) = .int 4) := fun z => h4 (by have := V.int.inj z; omega)
          rw [decide_eq_false this]
          rfl
        · rw [editD_len (by rw [← dx_len t]; exact h4)] at q
          exact q _ (Same.refl _)
end
end Cu

namespace Cu
open PySem PySem.Spec PyProof.Rows L2
/-! ### what is made beside the hand a: F grows by new objects alone -/
structure Mk (a : Addr) (F H F' H' : Hp) : Prop where
  upto : Upto a H H'
  live : ∃ o, H' a = some o
  sub : Same F' H'
  mono : Same F F'
  fresh : ∀ b o, H b = some o → F b = none → F' b = none
theorem Mk.trans {a : Addr} {F H F1 H1 F2 H2 : Hp} (x : Mk a F H F1 H1) (y : Mk a F1 H1 F2 H2) : Mk a F H F2 H2 := by
  refine ⟨x.upto.trans y.upto, y.live, y.sub, x.mono.trans y.mono, fun b o e n => ?_⟩
  have n1 := x.fresh b o e n
  by_cases z : b = a
  · obtain ⟨o1, e1⟩ := x.live
    exact y.fresh b o1 (z ▸ e1) n1
  · exact y.fresh b o (x.upto b o z e) n1
theorem Mk.draw {a : Addr} {F H H' : Hp} (s : Same F H) (u : Upto a H H') (l : ∃ o, H' a = some o) (fa : F a = none) : Mk a F H F H' :=
  ⟨u, l, same_upto s u fa, Same.refl _, fun _ _ _ n => n⟩
theorem Mk.refl {a : Addr} {F H : Hp} (s : Same F H) (l : ∃ o, H a = some o) : Mk a F H F H := ⟨.refl _ _, l, s, Same.refl _, fun _ _ _ n => n⟩
theorem Mk.new {a p : Addr} {F H : Hp} (o : HO) (s : Same F H) (l : ∃ o, H a = some o) (n : H p = none) : Mk a F H (upd F p o) (upd H p o) := by
  obtain ⟨oa, ea⟩ := l
  refine ⟨.new n, ⟨oa, (upd_ne (ne_of_none ea n)).trans ea⟩, same_both s n, same_upd (s.free n), fun b ob e nb => ?_⟩
  rw [upd_ne (ne_of_none e n)]
  exact nb
theorem Mk.skip {a p : Addr} {F H : Hp} (o : HO) (s : Same F H) (l : ∃ o, H a = some o) (n : H p = none) : Mk a F H F (upd H p o) := by
  obtain ⟨oa, ea⟩ := l
  exact ⟨.new n, ⟨oa, (upd_ne (ne_of_none ea n)).trans ea⟩, s.trans (same_upd n), Same.refl _, fun b ob e nb => nb⟩
theorem Mk.fa {a : Addr} {F H F' H' : Hp} (m : Mk a F H F' H') (l : ∃ o, H a = some o) (fa : F a = none) : F' a = none := by
  obtain ⟨o, e⟩ := l
  exact m.fresh a o e fa
/-! ### the parts of an edit -/
def Bas (x : V) : Prop := (∃ z, x = .str z ∧ Asc z ∧ z.length ≤ 8) ∨ ∃ i : Int, x = .int i ∧ 0 ≤ i ∧ i ≤ 10 ^ 20
def El (F : Hp) (x : V) : Prop := ∃ d, Dx F x d ∧ Gx 20000 2 d ∧ ∀ z, x = .str z → z.length ≤ 1000
theorem El.more {F F' : Hp} {x : V} (s : Same F F') (h : El F x) : El F' x := by
  obtain ⟨d, h1, h2⟩ := h
  exact ⟨d, Dx.stays (stays_of s) d x h1, h2⟩
theorem el_str {F : Hp} {z : Str} (a : Asc z) (l : z.length ≤ 1000) : El F (.str z) := by
  refine ⟨.str z, .str z, (good_str (n := 20000) (k := 2) a (by omega)).gx, ?_⟩
  rintro y ⟨⟩
  exact l
theorem log_int {i : Int} (h : i.natAbs < 2 ^ 200) : i.natAbs.log2 < 1920 := by
  by_cases h0 : i.natAbs = 0
  · rw [h0]
    decide
  · exact Nat.lt_of_lt_of_le ((Nat.log2_lt h0).mpr h) (by decide)
theorem el_int {F : Hp} {i : Int} (h : i.natAbs < 2 ^ 200) : El F (.int i) := ⟨.int i, .int i, (good_int (n := 20000) (k := 2) (log_int h) (by decide)).gx, fun y e => (nomatch e)⟩
theorem el_bl {F : Hp} (b : Bool) : El F (.bl b) := ⟨.bool b, .bl b, (good_bool b (n := 20000) (k := 2) (by decide)).gx, fun y e => (nomatch e)⟩
theorem el_non {F : Hp} : El F .non := ⟨.none, .non, (good_none (n := 20000) (k := 2) (by decide)).gx, fun y e => (nomatch e)⟩
theorem ten20 : (10 : Int) ^ 20 < 2 ^ 199 := by decide +kernel
theorem el_bas {F : Hp} {x : V} (h : Bas x) : El F x := by
  have := ten20
  rcases h with ⟨z, rfl, a, l⟩ | ⟨i, rfl, h0, h1⟩
  · exact el_str a (by omega)
  · refine el_int ?_
    have e : ((2 : Int) ^ 199) = ((2 ^ 199 : Nat) : Int) := by decide +kernel
    have : (2 : Nat) ^ 199 < 2 ^ 200 := by decide +kernel
    omega
theorem el_lst0 {F : Hp} {p : Addr} (e : F p = some (.lst [])) : El F (.ref p) := ⟨.list [], .lst e .nil, ⟨by decide +kernel, by decide +kernel, by decide +kernel⟩, fun y e => (nomatch e)⟩
theorem el_tup0 {F : Hp} {p : Addr} (e : F p = some (.tup [])) : El F (.ref p) := ⟨.tuple [], .tup e .nil, ⟨by decide +kernel, by decide +kernel, by decide +kernel⟩, fun y e => (nomatch e)⟩
theorem el_dct0 {F : Hp} {p : Addr} (e : F p = some (.dK [])) : El F (.ref p) := ⟨.dict [], .dct e .nil, ⟨by decide +kernel, by decide +kernel, by decide +kernel⟩, fun y e => (nomatch e)⟩
theorem bas_data {F : Hp} {x : V} (h : Bas x) : ∃ d, Dx F x d ∧ Gx 5000 0 d := by
  have := ten20
  rcases h with ⟨z, rfl, a, l⟩ | ⟨i, rfl, h0, h1⟩
  · exact ⟨.str z, .str z, (good_str a (by omega)).gx⟩
  · refine ⟨.int i, .int i, (good_int (log_int ?_) (by decide)).gx⟩
    have e : ((2 : Int) ^ 199) = ((2 ^ 199 : Nat) : Int) := by decide +kernel
    have : (2 : Nat) ^ 199 < 2 ^ 200 := by decide +kernel
    omega
theorem el_lst1 {F : Hp} {p : Addr} {x : V} (e : F p = some (.lst [x])) (b : Bas x) : El F (.ref p) := by
  obtain ⟨d, dx, g⟩ := bas_data (F := F) b
  refine ⟨.list [d], .lst e (.cons dx .nil), (gx_list (n := 5000) (k := 0) (m := 20000) (fun d' m => ?_) (by show 5002 * 1 + 2 ≤ 20000; decide)).mono (Nat.le_refl _) (by decide), fun y e => (nomatch e)⟩
  rw [List.mem_singleton.mp m]
  exact g
theorem el_tup1 {F : Hp} {p : Addr} {x : V} (e : F p = some (.tup [x])) (b : Bas x) : El F (.ref p) := by
  obtain ⟨d, dx, g⟩ := bas_data (F := F) b
  refine ⟨.tuple [d], .tup e (.cons dx .nil), (gx_tup (n := 5000) (k := 0) (m := 20000) (fun d' m => ?_) (by show 5002 * 1 + 2 ≤ 20000; decide)).mono (Nat.le_refl _) (by decide), fun y e => (nomatch e)⟩
  rw [List.mem_singleton.mp m]
  exact g
/-- an item of the law -/
def Itm (F : Hp) (x : V) : Prop := ∃ d, Shx d ∧ Fit F x d
theorem els_all {F : Hp} : ∀ (xs : List V), (∀ x ∈ xs, El F x) → ∃ ds, DxAll F xs ds ∧ (∀ d ∈ ds, Gx 20000 2 d) ∧ ds.length = xs.length
  | [], _ => ⟨[], .nil, fun d m => (nomatch m), rfl⟩
  | x :: r, h => by
    obtain ⟨ds, h1, h2, h3⟩ := els_all r fun y m => h y (List.mem_cons_of_mem _ m)
    obtain ⟨d, k1, k2, _⟩ := h x List.mem_cons_self
    refine ⟨d :: ds, .cons k1 h1, fun y m => ?_, by rw [List.length_cons, List.length_cons, h3]⟩
    rcases List.mem_cons.mp m with rfl | m
    · exact k2
    · exact h2 y m
theorem small_of {F : Hp} {xs : List V} (h : ∀ x ∈ xs, El F x) : ∀ y ∈ xs, ∀ z, y = .str z → z.length ≤ sizeLine := by
  intro y m z e
  obtain ⟨_, _, _, l⟩ := h y m
  exact Nat.le_trans (l z e) (by decide)
theorem itm_tup {F : Hp} {p : Addr} {xs : List V} (e : F p = some (.tup xs)) (h : ∀ x ∈ xs, El F x) (l : xs.length ≤ 20) : Itm F (.ref p) := by
  obtain ⟨ds, h1, h2, h3⟩ := els_all xs h
  refine ⟨.tuple ds, Gx.shx (n := 500000) (k := 3) (gx_tup h2 ?_), .tup e h1, fun z e => (nomatch e), ?_⟩
  · have : (20000 + 2) * ds.length ≤ 20002 * 20 := Nat.mul_le_mul_left _ (by omega)
    omega
  · rintro a ys ⟨⟩ e2
    cases e.symm.trans e2
    exact small_of h
theorem itm_lst {F : Hp} {p : Addr} {xs : List V} (e : F p = some (.lst xs)) (h : ∀ x ∈ xs, El F x) (l : xs.length ≤ 20) : Itm F (.ref p) := by
  obtain ⟨ds, h1, h2, h3⟩ := els_all xs h
  refine ⟨.list ds, Gx.shx (n := 500000) (k := 3) (gx_list h2 ?_), .lst e h1, fun z e => (nomatch e), ?_⟩
  · have : (20000 + 2) * ds.length ≤ 20002 * 20 := Nat.mul_le_mul_left _ (by omega)
    omega
  · rintro a ys ⟨⟩ e2
    cases e.symm.trans e2
theorem itm_tup2 {F : Hp} {p t : Addr} {xs : List V} (e : F p = some (.tup [.ref t])) (et : F t = some (.tup xs)) (h : ∀ x ∈ xs, El F x) (l : xs.length ≤ 20) : Itm F (.ref p) := by
  obtain ⟨ds, h1, h2, h3⟩ := els_all xs h
  have g : Gx 500000 3 (.tuple ds) := gx_tup h2 (by
    have : (20000 + 2) * ds.length ≤ 20002 * 20 := Nat.mul_le_mul_left _ (by omega)
    omega)
  refine ⟨.tuple [.tuple ds], Gx.shx (n := 600000) (k := 4) (gx_tup (n := 500000) (k := 3) (fun d m => ?_) (by show 500002 * 1 + 2 ≤ 600000; decide)), .tup e (.cons (.tup et h1) .nil), fun z e => (nomatch e), ?_⟩
  · rw [List.mem_singleton.mp m]
    exact g
  · rintro a ys ⟨⟩ e2
    cases e.symm.trans e2
    intro y m z ey
    rw [List.mem_singleton.mp m] at ey
    cases ey
theorem itm_el {F : Hp} {x : V} (h : El F x) (ns : ∀ a xs, x = .ref a → F a = some (.tup xs) → ∀ y ∈ xs, ∀ z, y = .str z → z.length ≤ sizeLine) : Itm F x := by
  obtain ⟨d, dx, g, l⟩ := h
  exact ⟨d, g.shx, dx, fun z e => Nat.le_trans (l z e) (by decide), ns⟩
theorem Itm.more {F F' : Hp} {x : V} (s : Same F F') (h : Itm F x) : Itm F' x := by
  obtain ⟨d, sh, dx, top, inn⟩ := h
  refine ⟨d, sh, Dx.stays (stays_of s) d x dx, top, ?_⟩
  intro a xs ex e
  cases dx with
  | tup e0 _ =>
    cases ex
    have := s _ _ e0
    cases this.symm.trans e
    exact inn _ _ rfl e0
  | lst e0 _ =>
    cases ex
    cases (s _ _ e0).symm.trans e
  | dct e0 _ =>
    cases ex
    cases (s _ _ e0).symm.trans e
  | non => cases ex
  | bl _ => cases ex
  | int _ => cases ex
  | str _ => cases ex
/-! ### slices and sums of tuples -/
theorem cut_whole {xs : List V} {lo hi : Option Int} (h : HT.sIx xs.length 0 lo = 0 ∧ HT.sIx xs.length xs.length hi = xs.length) : cutV xs lo hi = xs := by
  unfold cutV
  rw [h.1, h.2, List.drop_zero, Nat.sub_zero, List.take_length]
theorem cut_mem {xs : List V} {lo hi : Option Int} {y : V} (m : y ∈ cutV xs lo hi) : y ∈ xs := List.mem_of_mem_drop (List.mem_of_mem_take m)
theorem reads_slice {K : PySem.W.Frag} {a t : Addr} {F H : Hp} {xs : List V} {lo hi : Option Int} {Q : VK} (s : Same F H) (l : ∃ o, H a = some o) (e : F t = some (.tup xs))
    (q : ∀ F' H' v, Mk a F H F' H' → F' v = some (.tup (cutV xs lo hi)) → Q (.ref v) H') : rSlA K (.ref t) lo hi H Q := by
  refine ⟨t, xs, rfl, SqT.of (s _ _ e), fun hw => ?_, fun _ p n => ?_⟩
  · exact q F H t (.refl s l) (by rw [cut_whole hw]; exact e)
  · exact q _ _ p (.new _ s l n) upd_same
theorem reads_cat {K : PySem.W.Frag} {a t u : Addr} {F H : Hp} {xs ys : List V} {Q : VK} (s : Same F H) (l : ∃ o, H a = some o) (e1 : F t = some (.tup xs)) (e2 : F u = some (.tup ys)) (len : xs.length + ys.length ≤ sizeLine)
    (q : ∀ F' H' v, Mk a F H F' H' → F' v = some (.tup (xs ++ ys)) → Q (.ref v) H') : rCatA K (.ref t) (.ref u) H Q := by
  refine ⟨t, u, xs, ys, rfl, rfl, SqT.of (s _ _ e1), SqT.of (s _ _ e2), len, fun h => ?_, fun _ h => ?_, fun _ _ p n => ?_⟩
  · subst h
    exact q F H u (.refl s l) e2
  · subst h
    exact q F H t (.refl s l) (by rw [List.append_nil]; exact e1)
  · exact q _ _ p (.new _ s l n) upd_same
abbrev sPiece : Stmt := topS 15
abbrev sAny : Stmt := topS 16
abbrev sOdd : Stmt := topS 17
abbrev sChE : Stmt := topS 18
theorem scP : FnScope ["_law_hand_here", "_law_most", "_law_turn"] ["_law_hand_here", "_law_most"] (defScope sPiece) := ⟨rfl, rfl, rfl, by decide +kernel, rfl, by decide +kernel, by decide +kernel⟩
theorem scAE : FnScope ["_law_hand_here", "_law_document"] ["_law_hand_here", "_law_document"] (defScope sAny) := ⟨rfl, rfl, rfl, by decide +kernel, rfl, by decide +kernel, by decide +kernel⟩
theorem scOP : FnScope ["_law_hand_here", "_law_part", "_law_some"] ["_law_hand_here", "_law_part"] (defScope sOdd) := ⟨rfl, rfl, rfl, by decide +kernel, rfl, by decide +kernel, by decide +kernel⟩
theorem scCE : FnScope ["_law_hand_here", "_law_edit", "_law_at", "_law_way"] ["_law_hand_here", "_law_edit"] (defScope sChE) := ⟨rfl, rfl, rfl, by decide +kernel, rfl, by decide +kernel, by decide +kernel⟩
section
variable {P : Program} {w : World} {K : PySem.W.Frag} {mg : Str → Option Value} {base : Heap}
def spPiece : Sp := fun vs H Q _ => ∃ (a : Addr) (m n : Nat), vs = [.ref a, .int (m : Int)] ∧ Hand H a n ∧ n + 100 < 2 ^ 40 ∧ m ≤ 50 ∧ ∀ H' z, Upto a H H' → Hand H' a (n + 60) → z.length ≤ m → Asc z → Q (.str z) H'
theorem signs_asc {c : Nat} (h : c ∈ (Str.ofString "abxyz .~").cps.toList) : c < 128 := by
  have e : ∀ c ∈ (Str.ofString "abxyz .~").cps.toList, c < 128 := by decide +kernel
  exact e c h
theorem ok_piece {f fT fO : Addr} {fd fdT fdO : FuncData} {k : Nat} (F : Fun K "_law_piece" "_law_piece" sPiece f fd) (DT : Df K mg "_law_take" sTake ["_law_hand_here", "_law_many"] fT fdT) (DO : Df K mg "_law_of" sOf ["_law_hand_here", "_law_some"] fO fdO) (T : Bl mg) :
    FnOk P w K mg base CX0 (k + 3) f fd ["_law_hand_here", "_law_most"] spPiece := by
  have GT : FnOk P w K mg base CX0 1 fT fdT _ spTake := ok_take DT.F T
  have GO : FnOk P w K mg base CX0 2 fO fdO _ spOfS := ok_ofS DO.F DT T
  refine F.ok scP (fun vs H Q E h => ?_) (fun cdv A outer s H vs Q E hr h => ?_)
  · obtain ⟨a, m, n, rfl, _⟩ := h
    rfl
  · obtain ⟨a, m, n, rfl, hH, hn, hm, q⟩ := h
    refine ⟨_, (pss_one (ps_ret (pe_join pe_str (pe_lc (own := [("_law_turn", 2)]) (g := gName 2) (tt := tYes) rfl scP.nd (pi_range1 (by rfl) T.range (pa_cons (pe_call GT (hr.mono (by omega)) (by rfl) DT.g DT.F.kp DT.b .nil pass0 (pa_cons (pv 0) (pa_cons (pe_op op_add (pv 1) pe_int) pa_nil))) pa_nil)) (blkOk_by (own := [("_law_turn", 2)]) (N := ["_law_hand_here", "_law_most", "_law_turn"]) (sc := defScope sPiece) (by decide +kernel)) (fun _ _ _ _ _ => (pg_name (i := 2) scP.nd rfl (.inl rfl))) (fun _ _ _ _ _ => pts_nil) (fun _ _ _ _ _ => (pe_call GO (hr.mono (by omega)) (by rfl) DO.g DO.F.kp DO.b .nil pass0 (pa_cons (pv 0) (pa_cons pe_str pa_nil)))))))), ?_⟩
    refine ⟨⟨_, rfl⟩, .ref a, rfl, .int m, rfl, m, 1, rfl, rfl, a, m + 1, n, rfl, hH, by omega, by omega, by omega, fun H1 d u1 h1 d0 d1 => ?_⟩
    refine ⟨d, rfl, by omega, by omega, fun D nD => ?_⟩
    have nDa : D ≠ a := fun z => by
      obtain ⟨o, eo⟩ := h1.some
      rw [z, eo] at nD
      cases nD
    refine lc_range (lo := 0) (n := d.toNat) (fun i H2 => ∃ ys : List Str, H2 D = some (.lst (ys.map V.str)) ∧ ys.length = i ∧ (∀ y ∈ ys, y.length = 1 ∧ Asc y) ∧ Upto a H H2 ∧ Hand H2 a (n + 1 + i)) ?_ ?_ ?_
    · exact ⟨[], upd_same, rfl, fun y m => (nomatch m), u1.trans (.new nD), h1.new nD⟩
    · rintro i H2 hi ⟨ys, eD, el, ey, u2, h2⟩
      refine ⟨rfl, lc_yes ?_⟩
      refine ⟨.ref a, rfl, a, _, n + 1 + i, rfl, h2, by omega, by decide +kernel, by decide +kernel, fun H3 c u3 h3 hc => ?_⟩
      refine ⟨_, u3 D _ nDa eD, ?_, ys ++ [⟨#[c]⟩], ?_, ?_, ?_, ?_, ?_⟩
      · rw [List.length_map, el]
        exact small1000 (by omega)
      · rw [upd_same, List.map_append]
        rfl
      · rw [List.length_append, el]
        rfl
      · intro y my
        rcases List.mem_append.mp my with my | my
        · exact ey y my
        · rw [List.mem_singleton.mp my]
          refine ⟨rfl, fun x mx => ?_⟩
          have ex : x = c := by simpa using mx
          rw [ex]
          exact signs_asc hc
      · refine fun b o nb eb => ?_
        have nbD : b ≠ D := fun z => by
          rw [z] at eb
          have : H D = none := by
            cases hD : H D with
            | none => rfl
            | some o' =>
              have := u1 D o' nDa hD
              rw [nD] at this
              cases this
          rw [this] at eb
          cases eb
        rw [upd_ne nbD]
        exact u3 b o nb (u2 b o nb eb)
      · exact h3.at (upd_ne nDa.symm)
    · rintro H2 ⟨ys, eD, el, ey, u2, h2⟩
      have hs : ∀ zs : List Str, (∀ y ∈ zs, y.length = 1 ∧ Asc y) → (zs.map (·.length)).sum = zs.length ∧ ((zs.map tl).flatten).length = zs.length ∧ ∀ c ∈ (zs.map tl).flatten, c < 128 := by
        intro zs
        induction zs with
        | nil => exact fun _ => ⟨rfl, rfl, fun c m => (nomatch m)⟩
        | cons y r ih =>
          intro hz
          obtain ⟨i1, i2, i3⟩ := ih fun v m => hz v (List.mem_cons_of_mem _ m)
          obtain ⟨j1, j2⟩ := hz y List.mem_cons_self
          refine ⟨?_, ?_, fun c mc => ?_⟩
          · rw [List.map_cons, List.sum_cons, i1, j1, List.length_cons]
            omega
          · rw [List.map_cons, List.flatten_cons, List.length_append, i2, tl_len, j1, List.length_cons]
            omega
          · rw [List.map_cons, List.flatten_cons] at mc
            rcases List.mem_append.mp mc with mc | mc
            · exact j2 c mc
            · exact i3 c mc
      obtain ⟨s1, s2, s3⟩ := hs ys ey
      refine ⟨_, D, ys, rfl, rfl, .inl (SqL.of eD), ?_, ?_⟩
      · rw [s1]
        show ys.length + ys.length * 0 ≤ _
        omega
      · refine q _ _ u2 (h2.mono (by omega)) ?_ ?_
        · rw [← tl_len, tl_join0, s2]
          omega
        · intro c mc
          rw [tl_join0] at mc
          exact s3 c mc
end
end Cu

namespace Cu
open PySem PySem.Spec PyProof.Rows L2
def spots : List Int := [0, 1, 2, 5, 399, 400, 401, 10 ^ 20]
structure Bx (x : V) : Prop where
  bas : Bas x
  spot : ∀ i, x = .int i → i ∈ spots
theorem bx_str {z : Str} (a : Asc z) (l : z.length ≤ 8) : Bx (.str z) := ⟨.inl ⟨z, rfl, a, l⟩, fun i e => (nomatch e)⟩
theorem spots_in {i : Int} (h : i ∈ spots) : 0 ≤ i ∧ i ≤ 10 ^ 20 ∧ ascB (Str.ofString (toString i)) = true ∧ (Str.ofString (toString i)).length ≤ 30 := by
  have e : ∀ i ∈ spots, 0 ≤ i ∧ i ≤ 10 ^ 20 ∧ ascB (Str.ofString (toString i)) = true ∧ (Str.ofString (toString i)).length ≤ 30 := by decide +kernel
  exact e i h
theorem bx_int {i : Int} (h : i ∈ spots) : Bx (.int i) := ⟨.inr ⟨i, rfl, (spots_in h).1, (spots_in h).2.1⟩, fun j e => by cases e; exact h⟩
section
variable {P : Program} {w : World} {K : PySem.W.Frag} {mg : Str → Option Value} {base : Heap}
def spAny : Sp := fun vs H Q _ => ∃ (a : Addr) (z : Str) (n : Nat) (F : Hp), vs = [.ref a, .str z] ∧ Hand H a n ∧ n + 1000 < 2 ^ 40 ∧ Same F H ∧ F a = none ∧ Asc z ∧ z.length ≤ 8 ∧
  ∀ F' H' t xs, Mk a F H F' H' → Hand H' a (n + 121) → F' t = some (.tup xs) → xs.length = 4 → (∀ x ∈ xs, Bx x) → Q (.ref t) H'
theorem ok_any {f fT fO fP : Addr} {fd fdT fdO fdP : FuncData} {k : Nat} (F : Fun K "_law_any_edit" "_law_any_edit" sAny f fd) (DT : Df K mg "_law_take" sTake ["_law_hand_here", "_law_many"] fT fdT) (DO : Df K mg "_law_of" sOf ["_law_hand_here", "_law_some"] fO fdO) (DP : Df K mg "_law_piece" sPiece ["_law_hand_here", "_law_most"] fP fdP) (T : Bl mg) :
    FnOk P w K mg base CX0 (k + 4) f fd ["_law_hand_here", "_law_document"] spAny := by
  have GL : FnOk P w K mg base CX0 2 fO fdO _ spOfL := ok_ofL DO.F DT T
  have GP : FnOk P w K mg base CX0 3 fP fdP _ spPiece := ok_piece DP.F DT DO T
  refine F.ok scAE (fun vs H Q E h => ?_) (fun cdv A outer s H vs Q E hr h => ?_)
  · obtain ⟨a, z, n, G, rfl, _⟩ := h
    rfl
  · obtain ⟨a, z, n, G, rfl, hH, hn, sG, ga, az, zl, q⟩ := h
    refine ⟨_, (pss_one (ps_ret (pe_tup (pa_cons (pv 1) (pa_cons (pe_call GL (hr.mono (by omega)) (by rfl) DO.g DO.F.kp DO.b .nil pass0 (pa_cons (pv 0) (pa_cons (pe_lst (pa_cons pe_int (pa_cons pe_int (pa_cons pe_int (pa_cons pe_int (pa_cons pe_int (pa_cons pe_int (pa_cons pe_int (pa_cons (pe_op op_pow pe_int pe_int) pa_nil))))))))) pa_nil))) (pa_cons (pe_call GP (hr.mono (by omega)) (by rfl) DP.g DP.F.kp DP.b .nil pass0 (pa_cons (pv 0) (pa_cons pe_int pa_nil))) (pa_cons (pe_call GP (hr.mono (by omega)) (by rfl) DP.g DP.F.kp DP.b .nil pass0 (pa_cons (pv 0) (pa_cons pe_int pa_nil))) pa_nil))))))), ?_⟩
    refine ⟨.str z, rfl, .ref a, rfl, 10, 20, rfl, rfl, ⟨by decide, by decide, by decide⟩, by show 8 ≤ sizeLine; decide, fun l nl => ?_⟩
    have la := Hand.ne hH.some nl
    refine ⟨a, l, _, n, rfl, hH.new nl, by omega, la, upd_same, (by show 0 < 8; decide), (by show 8 ≤ 1000; decide), fun H1 v u1 h1 mv => ?_⟩
    obtain ⟨i, mi, rfl⟩ : ∃ i, i ∈ spots ∧ v = .int i := by
      simp only [List.mem_cons, List.not_mem_nil, or_false] at mv
      rcases mv with rfl | rfl | rfl | rfl | rfl | rfl | rfl | rfl
      · exact ⟨_, by decide +kernel, rfl⟩
      · exact ⟨_, by decide +kernel, rfl⟩
      · exact ⟨_, by decide +kernel, rfl⟩
      · exact ⟨_, by decide +kernel, rfl⟩
      · exact ⟨_, by decide +kernel, rfl⟩
      · exact ⟨_, by decide +kernel, rfl⟩
      · exact ⟨_, by decide +kernel, rfl⟩
      · exact ⟨_, by decide +kernel, rfl⟩
    refine ⟨.ref a, rfl, a, 3, n + 1, rfl, h1, by omega, by omega, fun H2 z1 u2 h2 l1 a1 => ?_⟩
    refine ⟨.ref a, rfl, a, 3, n + 1 + 60, rfl, h2, by omega, by omega, fun H3 z2 u3 h3 l2 a2 => ?_⟩
    have u : Upto a H H3 := (((Upto.new nl).trans u1).trans u2).trans u3
    have mk : Mk a G H G H3 := .draw sG u h3.some ga
    refine ⟨by show 4 ≤ sizeLine; decide, fun p np => q _ _ p [.str z, .int i, .str z1, .str z2] (mk.trans (.new _ mk.sub mk.live np)) (h3.new np) upd_same rfl ?_⟩
    intro x m
    simp only [List.mem_cons, List.not_mem_nil, or_false] at m
    rcases m with rfl | rfl | rfl | rfl
    · exact bx_str az zl
    · exact bx_int mi
    · exact bx_str a1 (by omega)
    · exact bx_str a2 (by omega)
def spOdd : Sp := fun vs H Q _ => ∃ (a : Addr) (x : V) (n : Nat) (F : Hp), vs = [.ref a, x] ∧ Hand H a n ∧ n + 1000 < 2 ^ 40 ∧ Same F H ∧ F a = none ∧ Bx x ∧
  ∀ F' H' v, Mk a F H F' H' → Hand H' a (n + 1) → El F' v → Q v H'
theorem ok_odd {f fT fO : Addr} {fd fdT fdO : FuncData} {k : Nat} (F : Fun K "_law_odd_part" "_law_odd_part" sOdd f fd) (DT : Df K mg "_law_take" sTake ["_law_hand_here", "_law_many"] fT fdT) (DO : Df K mg "_law_of" sOf ["_law_hand_here", "_law_some"] fO fdO) (T : Bl mg) :
    FnOk P w K mg base CX0 (k + 3) f fd ["_law_hand_here", "_law_part"] spOdd := by
  have GL : FnOk P w K mg base CX0 2 fO fdO _ spOfL := ok_ofL DO.F DT T
  refine F.ok scOP (fun vs H Q E h => ?_) (fun cdv A outer s H vs Q E hr h => ?_)
  · obtain ⟨a, x, n, G, rfl, _⟩ := h
    rfl
  · obtain ⟨a, x, n, G, rfl, hH, hn, sG, ga, bx, q⟩ := h
    refine ⟨_, (pss_cons (ps_set (i := 2) scOP.nd rfl (.inl rfl) (pe_lst (pa_cons pe_non (pa_cons pe_bl (pa_cons pe_bl (pa_cons pe_int (pa_cons (pe_un un_neg pe_int) (pa_cons pe_str (pa_cons pe_str (pa_cons pe_str (pa_cons pe_str (pa_cons pe_str (pa_cons (pe_op op_mulS pe_str pe_int) (pa_cons (pe_tup pa_nil) (pa_cons (pe_lst pa_nil) (pa_cons pe_dnewK (pa_cons (pe_tup (pa_cons pe_str pa_nil)) (pa_cons (pe_lst (pa_cons (pv 1) pa_nil)) (pa_cons (pe_tup (pa_cons (pv 1) pa_nil)) pa_nil)))))))))))))))))))
  (pss_cons (ps_if (pt_val (pe_callB call_isi (by rfl) T.isinstance (by decide +kernel) (pa_cons (pv 1) (pa_cons (pe_bltn (v := .ty "int") (by rfl) T.int (by decide +kernel) rfl) pa_nil))))
  (pss_one (ps_set (i := 2) scOP.nd rfl (.inl rfl) (pe_op op_cat (pv 2) (pe_lst (pa_cons (pe_op op_add (pv 1) pe_int) (pa_cons (pe_un un_neg (pv 1)) (pa_cons (pe_cmpR op_eq (pv 1) pe_int (nomark _)) (pa_cons (pe_callTy call_str_int (by rfl) T.str (by decide +kernel) (pa_cons (pv 1) pa_nil)) pa_nil))))))))
  pss_nil)
  (pss_one (ps_ret (pe_call GL (hr.mono (by omega)) (by rfl) DO.g DO.F.kp DO.b .nil pass0 (pa_cons (pv 0) (pa_cons (pv 2) pa_nil))))))), ?_⟩
    refine ⟨1, rfl, "x", 401, rfl, rfl, by decide, by decide, by decide +kernel, fun r hr' => ⟨by show 0 ≤ sizeLine; decide, fun p1 e1 => ⟨by show 0 ≤ sizeLine; decide, fun p2 e2 => fun p3 e3 => ⟨by show 1 ≤ sizeLine; decide, fun p4 e4 => ⟨x, rfl, by show 1 ≤ sizeLine; decide, fun p5 e5 => ⟨x, rfl, by show 1 ≤ sizeLine; decide, fun p6 e6 => ?_⟩⟩⟩⟩⟩⟩
    have m0 : Mk a G H G H := .refl sG hH.some
    have m1 := m0.trans (.new (.tup []) m0.sub m0.live e1)
    have m2 := m1.trans (.new (.lst []) m1.sub m1.live e2)
    have m3 := m2.trans (.new (.dK []) m2.sub m2.live e3)
    have m4 := m3.trans (.new (.tup [.str "a"]) m3.sub m3.live e4)
    have m5 := m4.trans (.new (.lst [x]) m4.sub m4.live e5)
    have m6 := m5.trans (.new (.tup [x]) m5.sub m5.live e6)
    have s2 := (Mk.new (.lst []) m1.sub m1.live e2).mono
    have s3 := (Mk.new (.dK []) m2.sub m2.live e3).mono
    have s4 := (Mk.new (.tup [.str "a"]) m3.sub m3.live e4).mono
    have s5 := (Mk.new (.lst [x]) m4.sub m4.live e5).mono
    have s6 := (Mk.new (.tup [x]) m5.sub m5.live e6).mono
    have aA : Bas (.str "a") := .inl ⟨_, rfl, asc_b (by decide +kernel), by decide +kernel⟩
    have k1 := (((((el_tup0 upd_same).more s2).more s3).more s4).more s5).more s6
    have k2 := ((((el_lst0 upd_same).more s3).more s4).more s5).more s6
    have k3 := (((el_dct0 upd_same).more s4).more s5).more s6
    have k4 := ((el_tup1 upd_same aA).more s5).more s6
    have k5 := (el_lst1 upd_same bx.bas).more s6
    have k6 := el_tup1 (F := upd (upd (upd (upd (upd (upd G p1 (.tup [])) p2 (.lst [])) p3 (.dK [])) p4 (.tup [.str "a"])) p5 (.lst [x])) p6 (.tup [x])) upd_same bx.bas
    have h6 := Hand.new (o := .tup [x]) (Hand.new (o := .lst [x]) (Hand.new (o := .tup [.str "a"]) (Hand.new (o := .dK []) (Hand.new (o := .lst []) (Hand.new (o := .tup []) hH e1) e2) e3) e4) e5) e6
    generalize upd (upd (upd (upd (upd (upd H p1 (.tup [])) p2 (.lst [])) p3 (.dK [])) p4 (.tup [.str "a"])) p5 (.lst [x])) p6 (.tup [x]) = H6 at m6 h6 ⊢
    generalize upd (upd (upd (upd (upd (upd G p1 (.tup [])) p2 (.lst [])) p3 (.dK [])) p4 (.tup [.str "a"])) p5 (.lst [x])) p6 (.tup [x]) = F6 at m6 k1 k2 k3 k4 k5 k6
    clear m1 m2 m3 m4 m5 s2 s3 s4 s5 s6 e1 e2 e3 e4 e5 e6 m0
    refine ⟨by show 17 ≤ sizeLine; decide, fun l nl => ?_⟩
    have rl := rep_length hr'
    have w1 : (Str.ofString "x").length = 1 := by decide +kernel
    rw [w1] at rl
    have ok17 : ∀ v ∈ [V.non, .bl true, .bl false, .int 0, .int (-1), .str "", .str "a", .str "A", .str "abcdefghi", .str "a\n", .str r, .ref p1, .ref p2, .ref p3, .ref p4, .ref p5, .ref p6], El F6 v := by
      intro v m
      simp only [List.mem_cons, List.not_mem_nil, or_false] at m
      rcases m with rfl | rfl | rfl | rfl | rfl | rfl | rfl | rfl | rfl | rfl | rfl | rfl | rfl | rfl | rfl | rfl | rfl
      · exact el_non
      · exact el_bl _
      · exact el_bl _
      · exact el_int (by decide)
      · exact el_int (by decide)
      · exact el_str (asc_b (by decide +kernel)) (by decide +kernel)
      · exact el_str (asc_b (by decide +kernel)) (by decide +kernel)
      · exact el_str (asc_b (by decide +kernel)) (by decide +kernel)
      · exact el_str (asc_b (by decide +kernel)) (by decide +kernel)
      · exact el_str (asc_b (by decide +kernel)) (by decide +kernel)
      · exact el_str (rep_asc hr' (asc_b (by decide +kernel))) (by omega)
      · exact k1
      · exact k2
      · exact k3
      · exact k4
      · exact k5
      · exact k6
    have fin : ∀ (l' : Addr) (H' : Hp) (xs : List V), Mk a F6 H6 F6 H' → Hand H' a n → H' l' = some (.lst xs) → l' ≠ a → (∀ v ∈ xs, El F6 v) → 0 < xs.length → xs.length ≤ 1000 →
        spOfL [.ref a, .ref l'] H' Q E := by
      intro l' H' xs mk hh el ln ok p0 p1
      refine ⟨a, l', xs, n, rfl, hh, by omega, ln, el, p0, p1, fun H'' v u h'' mv => ?_⟩
      exact q F6 H'' v (m6.trans (mk.trans (.draw mk.sub u h''.some (m6.fa hH.some ga)))) h'' (ok v mv)
    have la := Hand.ne h6.some nl
    rcases bx.bas with ⟨z, rfl, az, zl⟩ | ⟨i, rfl, i0, i1⟩
    · refine ⟨.str z, rfl, _, _, _, _, _, rfl, .ty "int", ty_of (.str z), kit_int (.str z), _, rfl, iffF rfl ⟨.ref a, rfl, .ref l, rfl, ?_⟩⟩
      exact fin l _ _ (.skip _ m6.sub m6.live nl) (h6.new nl) upd_same la ok17 (by show 0 < 17; decide) (by show 17 ≤ 1000; decide)
    · refine ⟨.int i, rfl, _, _, _, _, _, rfl, .ty "int", ty_of (.int i), kit_int (.int i), _, rfl, iffT rfl ?_⟩
      obtain ⟨_, _, as, ls⟩ := spots_in (bx.spot i rfl)
      have := ten20
      have e2 : ((2 : Int) ^ 199) = ((2 ^ 199 : Nat) : Int) := by decide +kernel
      have e3 : (2 : Nat) ^ 199 < 2 ^ 200 := by decide +kernel
      refine ⟨.ref l, rfl, .int i, rfl, i, 1, rfl, rfl, .int i, rfl, i, rfl, .int i, rfl, rfl, .int i, rfl, i, rfl, log_int (by omega), ?_⟩
      refine ⟨by show 4 ≤ sizeLine; decide, fun l1 n1 => ⟨l, l1, _, _, rfl, rfl, (upd_ne (ne_of_none upd_same n1)).trans upd_same, upd_same, by show 17 + 4 ≤ sizeLine; decide, fun l2 n2 => ?_⟩⟩
      have t1 : Mk a F6 H6 F6 _ := .skip (.lst [V.non, .bl true, .bl false, .int 0, .int (-1), .str "", .str "a", .str "A", .str "abcdefghi", .str "a\n", .str r, .ref p1, .ref p2, .ref p3, .ref p4, .ref p5, .ref p6]) m6.sub m6.live nl
      have t2 := t1.trans (.skip (.lst [.int (i + 1), .int (-i), .bl (decide (V.int i = .int 1)), .str (toString i)]) t1.sub t1.live n1)
      refine ⟨.ref a, rfl, .ref l2, rfl, ?_⟩
      refine fin l2 _ _ (t2.trans (.skip (.lst _) t2.sub t2.live n2)) (((h6.new nl).new n1).new n2) upd_same (Hand.ne t2.live n2) ?_ (by show 0 < 21; decide) (by show 21 ≤ 1000; decide)
      intro v m
      rcases List.mem_append.mp m with m | m
      · exact ok17 v m
      · simp only [List.mem_cons, List.not_mem_nil, or_false] at m
        rcases m with rfl | rfl | rfl | rfl
        · exact el_int (by omega)
        · exact el_int (by omega)
        · exact el_bl _
        · exact el_str (asc_b as) (Nat.le_trans ls (by decide))
end
end Cu

namespace Cu
open PySem PySem.Spec PyProof.Rows L2
theorem cut_len {xs : List V} {lo hi : Option Int} : (cutV xs lo hi).length ≤ xs.length := by
  unfold cutV
  rw [List.length_take, List.length_drop]
  omega
/-- made, and the hand as it was -/
structure Mq (a : Addr) (F H F' H' : Hp) : Prop where
  md : Mk a F H F' H'
  same : Same H H'
theorem Mq.trans {a : Addr} {F H F1 H1 F2 H2 : Hp} (x : Mq a F H F1 H1) (y : Mq a F1 H1 F2 H2) : Mq a F H F2 H2 := ⟨x.md.trans y.md, x.same.trans y.same⟩
theorem Mq.new {a p : Addr} {F H : Hp} (o : HO) (s : Same F H) (l : ∃ o, H a = some o) (n : H p = none) : Mq a F H (upd F p o) (upd H p o) := ⟨.new o s l n, same_upd n⟩
theorem Mq.refl {a : Addr} {F H : Hp} (s : Same F H) (l : ∃ o, H a = some o) : Mq a F H F H := ⟨.refl s l, Same.refl _⟩
theorem slice2 {K : PySem.W.Frag} {a t : Addr} {F H : Hp} {xs : List V} {lo hi : Option Int} {Q : VK} (s : Same F H) (l : ∃ o, H a = some o) (e : F t = some (.tup xs))
    (q : ∀ F' H' v, Mq a F H F' H' → F' v = some (.tup (cutV xs lo hi)) → Q (.ref v) H') : rSlA K (.ref t) lo hi H Q := by
  refine ⟨t, xs, rfl, SqT.of (s _ _ e), fun hw => ?_, fun _ p n => ?_⟩
  · exact q F H t (.refl s l) (by rw [cut_whole hw]; exact e)
  · exact q _ _ p (.new _ s l n) upd_same
theorem cat2 {K : PySem.W.Frag} {a t u : Addr} {F H : Hp} {xs ys : List V} {Q : VK} (s : Same F H) (l : ∃ o, H a = some o) (e1 : F t = some (.tup xs)) (e2 : F u = some (.tup ys)) (len : xs.length + ys.length ≤ 100)
    (q : ∀ F' H' v, Mq a F H F' H' → F' v = some (.tup (xs ++ ys)) → Q (.ref v) H') : rCatA K (.ref t) (.ref u) H Q := by
  refine ⟨t, u, xs, ys, rfl, rfl, SqT.of (s _ _ e1), SqT.of (s _ _ e2), Nat.le_trans len (by decide), fun h => ?_, fun _ h => ?_, fun _ _ p n => ?_⟩
  · subst h
    exact q F H u (.refl s l) e2
  · subst h
    exact q F H t (.refl s l) (by rw [List.append_nil]; exact e1)
  · exact q _ _ p (.new _ s l n) upd_same
theorem slice3 {K : PySem.W.Frag} {a t : Addr} {σ : List (Option V)} {F H : Hp} {xs : List V} {lo : Int} {Q : VK} (s : Same F H) (l : ∃ o, H a = some o) (e : F t = some (.tup xs))
    (q : ∀ F' H' v, Mq a F H F' H' → F' v = some (.tup (cutV xs (some lo) none)) → Q (.ref v) H') : tNoPart σ H fun u H3 => rSlA K (.ref t) (some lo) u H3 Q := slice2 s l e q
theorem el_all {F : Hp} {xs : List V} (h : ∀ x ∈ xs, Bx x) : ∀ x ∈ xs, El F x := fun x m => el_bas (h x m).bas
theorem el_cut {F : Hp} {xs : List V} {lo hi : Option Int} (h : ∀ x ∈ xs, Bx x) : ∀ x ∈ cutV xs lo hi, El F x := fun x m => el_bas (h x (cut_mem m)).bas
theorem el_app {F : Hp} {xs ys : List V} (h : ∀ x ∈ xs, El F x) (g : ∀ x ∈ ys, El F x) : ∀ x ∈ xs ++ ys, El F x := fun x m => by
  rcases List.mem_append.mp m with m | m
  · exact h x m
  · exact g x m
section
variable {P : Program} {w : World} {K : PySem.W.Frag} {mg : Str → Option Value} {base : Heap}
def spChE : Sp := fun vs H Q _ => ∃ (a t : Addr) (xs : List V) (n : Nat) (F : Hp), vs = [.ref a, .ref t] ∧ Hand H a n ∧ n + 2000 < 2 ^ 40 ∧ Same F H ∧ F a = none ∧ F t = some (.tup xs) ∧ xs.length = 4 ∧ (∀ x ∈ xs, Bx x) ∧
  ∀ F' H' v, Mk a F H F' H' → Hand H' a (n + 4) → Itm F' v → Q v H'
theorem ok_chE {f fT fO fD : Addr} {fd fdT fdO fdD : FuncData} {k : Nat} (F : Fun K "_law_changed_edit" "_law_changed_edit" sChE f fd) (DT : Df K mg "_law_take" sTake ["_law_hand_here", "_law_many"] fT fdT) (DO : Df K mg "_law_of" sOf ["_law_hand_here", "_law_some"] fO fdO) (DOP : Df K mg "_law_odd_part" sOdd ["_law_hand_here", "_law_part"] fD fdD) (T : Bl mg) :
    FnOk P w K mg base CX0 (k + 4) f fd ["_law_hand_here", "_law_edit"] spChE := by
  have GT : FnOk P w K mg base CX0 1 fT fdT _ spTake := ok_take DT.F T
  have GOP : FnOk P w K mg base CX0 3 fD fdD _ spOdd := ok_odd DOP.F DT DO T
  refine F.ok scCE (fun vs H Q E h => ?_) (fun cdv A outer s H vs Q E hr h => ?_)
  · obtain ⟨a, t, xs, n, G, rfl, _⟩ := h
    rfl
  · obtain ⟨a, t, xs, n, G, rfl, hH, hn, sG, ga, et, x4, bx, q⟩ := h
    refine ⟨_, (pss_cons (ps_par (i := 2) (j := 3) (by rfl) scCE.nd rfl rfl (by decide) rfl rfl (pa_cons (pe_call GT (hr.mono (by omega)) (by rfl) DT.g DT.F.kp DT.b .nil pass0 (pa_cons (pv 0) (pa_cons (pe_callB call_len_seq (by rfl) T.len PySem.boot_len (pa_cons (pv 1) pa_nil)) pa_nil))) (pa_cons (pe_call GT (hr.mono (by omega)) (by rfl) DT.g DT.F.kp DT.b .nil pass0 (pa_cons (pv 0) (pa_cons pe_int pa_nil))) pa_nil)) (by rfl))
  (pss_cons (ps_if (pt_cmpR op_eq (pv 3) pe_int (nomark _))
  (pss_one (ps_ret (pe_op op_catA (pe_slice sl_tupA (pv 1) po_none (po_some (pv 2))) (pe_slice sl_tupA (pv 1) (po_some (pe_op op_add (pv 2) pe_int)) po_none))))
  pss_nil)
  (pss_cons (ps_if (pt_cmpR op_eq (pv 3) pe_int (nomark _))
  (pss_one (ps_ret (pe_op op_catA (pe_op op_catA (pe_slice sl_tupA (pv 1) po_none (po_some (pv 2))) (pe_slice sl_tupA (pv 1) (po_some (pv 2)) (po_some (pe_op op_add (pv 2) pe_int)))) (pe_slice sl_tupA (pv 1) (po_some (pv 2)) po_none))))
  pss_nil)
  (pss_cons (ps_if (pt_cmpR op_eq (pv 3) pe_int (nomark _))
  (pss_one (ps_ret (pe_ix ix_list (pe_lst (pa_cons (pe_callTy call_list_of (by rfl) T.list (by decide +kernel) (pa_cons (pv 1) pa_nil)) (pa_cons (pe_revT (pv 1)) (pa_cons (pe_tup (pa_cons (pv 1) pa_nil)) (pa_cons (pe_op op_catA (pv 1) (pe_tup (pa_cons pe_str pa_nil))) pa_nil))))) (pe_call GT (hr.mono (by omega)) (by rfl) DT.g DT.F.kp DT.b .nil pass0 (pa_cons (pv 0) (pa_cons pe_int pa_nil))) (fun _ _ => rfl))))
  pss_nil)
  (pss_one (ps_ret (pe_op op_catA (pe_op op_catA (pe_slice sl_tupA (pv 1) po_none (po_some (pv 2))) (pe_tup (pa_cons (pe_call GOP (hr.mono (by omega)) (by rfl) DOP.g DOP.F.kp DOP.b .nil pass0 (pa_cons (pv 0) (pa_cons (pe_ix ix_tup (pv 1) (pv 2) (fun _ _ => rfl)) pa_nil))) pa_nil))) (pe_slice sl_tupA (pv 1) (po_some (pe_op op_add (pv 2) pe_int)) po_none)))))))), ?_⟩
    refine ⟨.ref a, rfl, .ref t, rfl, t, xs, rfl, .inr (SqT.of (sG _ _ et)), a, _, n, rfl, hH, by omega, by omega, by omega, fun H1 d u1 h1 d0 d1 => ?_⟩
    refine ⟨.ref a, rfl, a, 8, n + 1, rfl, h1, by omega, by omega, by omega, fun H2 y u2 h2 y0 y1 => ?_⟩
    have m2 : Mk a G H G H2 := .draw sG (u1.trans u2) h2.some ga
    have cl : ∀ lo hi, (cutV xs lo hi).length ≤ 4 := fun lo hi => Nat.le_trans cut_len (by omega)
    refine ⟨_, _, rfl, ?_⟩
    refine ⟨.int y, rfl, rfl, _, rfl, ite2 (fun _ => ?_) (fun _ => ?_)⟩
    · -- without the part
      refine ⟨.ref t, rfl, .int d, rfl, d, rfl, slice2 (a := a) m2.sub m2.live et fun F1 K1 v1 mk1 ev1 => ?_⟩
      refine ⟨.ref t, rfl, .int d, rfl, d, 1, rfl, rfl, _, rfl, slice3 (a := a) mk1.md.sub mk1.md.live (mk1.md.mono _ _ et) fun F2 K2 v2 mk2 ev2 => ?_⟩
      refine cat2 (a := a) mk2.md.sub mk2.md.live (mk2.md.mono _ _ ev1) ev2 ?_ fun F3 K3 v3 mk3 ev3 => ?_
      · have := cl none (some d)
        have := cl (some (d + 1)) none
        omega
      · have mm := (mk1.trans mk2).trans mk3
        refine q F3 K3 _ (m2.trans mm.md) ((h2.same mm.same).mono (by omega)) (itm_tup ev3 (el_app (el_cut bx) (el_cut bx)) ?_)
        have := cl none (some d)
        have := cl (some (d + 1)) none
        rw [List.length_append]
        omega
    refine ⟨.int y, rfl, rfl, _, rfl, ite2 (fun _ => ?_) (fun _ => ?_)⟩
    · -- the part twice
      refine ⟨.ref t, rfl, .int d, rfl, d, rfl, slice2 (a := a) m2.sub m2.live et fun F1 K1 v1 mk1 ev1 => ?_⟩
      refine ⟨.ref t, rfl, .int d, rfl, d, rfl, .int d, rfl, d, 1, rfl, rfl, _, rfl, slice2 (a := a) mk1.md.sub mk1.md.live (mk1.md.mono _ _ et) fun F2 K2 v2 mk2 ev2 => ?_⟩
      have c1 := cl none (some d)
      have c2 := cl (some d) (some (d + 1))
      have c3 := cl (some d) none
      refine cat2 (a := a) mk2.md.sub mk2.md.live (mk2.md.mono _ _ ev1) ev2 (by omega) fun F3 K3 v3 mk3 ev3 => ?_
      refine ⟨.ref t, rfl, .int d, rfl, d, rfl, slice3 (a := a) mk3.md.sub mk3.md.live (mk3.md.mono _ _ (mk2.md.mono _ _ (mk1.md.mono _ _ et))) fun F4 K4 v4 mk4 ev4 => ?_⟩
      refine cat2 (a := a) mk4.md.sub mk4.md.live (mk4.md.mono _ _ ev3) ev4 (by rw [List.length_append]; omega) fun F5 K5 v5 mk5 ev5 => ?_
      have mm := (((mk1.trans mk2).trans mk3).trans mk4).trans mk5
      refine q F5 K5 _ (m2.trans mm.md) ((h2.same mm.same).mono (by omega)) (itm_tup ev5 (el_app (el_app (el_cut bx) (el_cut bx)) (el_cut bx)) ?_)
      rw [List.length_append, List.length_append]
      omega
    refine ⟨.int y, rfl, rfl, _, rfl, ite2 (fun _ => ?_) (fun _ => ?_)⟩
    · -- another shape
      refine ⟨.ref t, rfl, t, xs, rfl, .inr (SqT.of (m2.sub _ _ et)), fun l1 n1 => ?_⟩
      have mk1 : Mq a G H2 _ _ := .new (.lst xs) m2.sub m2.live n1
      have et1 := mk1.md.mono _ _ et
      refine ⟨.ref t, rfl, t, xs, rfl, SqT.of (mk1.md.sub _ _ et1), fun p2 n2 => ?_⟩
      have mk2 := Mq.new (a := a) (.tup xs.reverse) mk1.md.sub mk1.md.live n2
      have et2 := mk2.md.mono _ _ et1
      refine ⟨.ref t, rfl, by show 1 ≤ sizeLine; decide, fun p3 n3 => ?_⟩
      have mk3 := Mq.new (a := a) (.tup [.ref t]) mk2.md.sub mk2.md.live n3
      have et3 := mk3.md.mono _ _ et2
      refine ⟨.ref t, rfl, by show 1 ≤ sizeLine; decide, fun p4 n4 => ?_⟩
      have mk4 := Mq.new (a := a) (.tup [.str ""]) mk3.md.sub mk3.md.live n4
      have et4 := mk4.md.mono _ _ et3
      refine cat2 (a := a) mk4.md.sub mk4.md.live et4 (mk4.md.mono _ _ upd_same |> fun _ => upd_same) (by show xs.length + 1 ≤ 100; omega) fun F5 K5 v5 mk5 ev5 => ?_
      have mm := (((mk1.trans mk2).trans mk3).trans mk4).trans mk5
      have i1 : Itm F5 (.ref l1) := itm_lst (mk5.md.mono _ _ (mk4.md.mono _ _ (mk3.md.mono _ _ (mk2.md.mono _ _ upd_same)))) (el_all bx) (by omega)
      have i2 : Itm F5 (.ref p2) := itm_tup (mk5.md.mono _ _ (mk4.md.mono _ _ (mk3.md.mono _ _ upd_same))) (fun x m => el_bas (bx x (List.mem_reverse.mp m)).bas) (by rw [List.length_reverse]; omega)
      have i3 : Itm F5 (.ref p3) := itm_tup2 (mk5.md.mono _ _ (mk4.md.mono _ _ upd_same)) (mk5.md.mono _ _ et4) (el_all bx) (by omega)
      have i4 : Itm F5 (.ref v5) := itm_tup ev5 (el_app (el_all bx) fun x m => by rw [List.mem_singleton.mp m]; exact el_str (asc_b (by decide +kernel)) (by decide +kernel)) (by rw [List.length_append]; show xs.length + 1 ≤ 20; omega)
      refine ⟨by show 4 ≤ sizeLine; decide, fun l nl => ?_⟩
      have la := Hand.ne mm.md.live nl
      have m5 : Mk a G H F5 _ := (m2.trans mm.md).trans (.skip (.lst [.ref l1, .ref p2, .ref p3, .ref v5]) mm.md.sub mm.md.live nl)
      refine ⟨.ref a, rfl, a, 4, n + 2, rfl, (h2.same mm.same).new nl, by omega, by omega, by omega, fun H6 i u6 h6 j0 j1 => ?_⟩
      obtain ⟨v, e1, e2⟩ := at_of (xs := [V.ref l1, .ref p2, .ref p3, .ref v5]) j0 j1
      refine ⟨l, _, i, v, rfl, rfl, SqL.of (u6 l _ la upd_same), e2, ?_⟩
      refine q F5 H6 v (m5.trans (.draw m5.sub u6 h6.some (m5.fa hH.some ga))) (h6.mono (by omega)) ?_
      have mv := List.mem_of_getElem? e1
      simp only [List.mem_cons, List.not_mem_nil, or_false] at mv
      rcases mv with rfl | rfl | rfl | rfl
      · exact i1
      · exact i2
      · exact i3
      · exact i4
    · -- another part
      obtain ⟨x, e1, e2⟩ := at_of (xs := xs) d0 (by omega)
      refine ⟨.ref t, rfl, .int d, rfl, d, rfl, slice2 (a := a) m2.sub m2.live et fun F1 K1 v1 mk1 ev1 => ?_⟩
      have et1 := mk1.md.mono _ _ et
      refine ⟨.ref a, rfl, .ref t, rfl, .int d, rfl, t, xs, d, x, rfl, rfl, SqT.of (mk1.md.sub _ _ et1), e2, ?_⟩
      refine ⟨a, x, n + 2, F1, rfl, h2.same mk1.same, by omega, mk1.md.sub, mk1.md.fa h2.some ga, bx x (List.mem_of_getElem? e1), fun F2 K2 v mk2 h3 el => ?_⟩
      refine ⟨by show 1 ≤ sizeLine; decide, fun p np => ?_⟩
      have mk3 := Mq.new (a := a) (.tup [v]) mk2.sub mk2.live np
      have c1 := cl none (some d)
      have c3 := cl (some (d + 1)) none
      refine cat2 (a := a) mk3.md.sub mk3.md.live (mk3.md.mono _ _ (mk2.mono _ _ ev1)) upd_same (by show _ + 1 ≤ 100; omega) fun F4 K4 v4 mk4 ev4 => ?_
      refine ⟨.ref t, rfl, .int d, rfl, d, 1, rfl, rfl, _, rfl, slice3 (a := a) mk4.md.sub mk4.md.live (mk4.md.mono _ _ (mk3.md.mono _ _ (mk2.mono _ _ et1))) fun F5 K5 v5 mk5 ev5 => ?_⟩
      refine cat2 (a := a) mk5.md.sub mk5.md.live (mk5.md.mono _ _ ev4) ev5 (by rw [List.length_append]; show _ + 1 + _ ≤ 100; omega) fun F6 K6 v6 mk6 ev6 => ?_
      have mm := ((mk3.trans mk4).trans mk5).trans mk6
      refine q F6 K6 _ (((m2.trans mk1.md).trans mk2).trans mm.md) ((h3.same mm.same).mono (by omega)) (itm_tup ev6 (el_app (el_app (el_cut bx) ?_) (el_cut bx)) ?_)
      · intro x m
        rw [List.mem_singleton.mp m]
        exact el.more mm.md.mono
      · rw [List.length_append, List.length_append]
        show _ + 1 + _ ≤ 20
        omega
end
end Cu

namespace Cu
open PySem PySem.Spec PyProof.Rows L2
theorem Fit.more {F F' : Hp} {x : V} {d : PyData} (s : Same F F') (h : Fit F x d) : Fit F' x d := by
  obtain ⟨dx, top, inn⟩ := h
  refine ⟨Dx.stays (stays_of s) d x dx, top, ?_⟩
  intro a xs ex e
  cases dx with
  | tup e0 _ =>
    cases ex
    have := s _ _ e0
    cases this.symm.trans e
    exact inn _ _ rfl e0
  | lst e0 _ =>
    cases ex
    cases (s _ _ e0).symm.trans e
  | dct e0 _ =>
    cases ex
    cases (s _ _ e0).symm.trans e
  | non => cases ex
  | bl _ => cases ex
  | int _ => cases ex
  | str _ => cases ex
/-- the items so far: F holds what they are made of -/
structure It (pn pc it : Addr) (xs : List V) (F H : Hp) : Prop where
  sub : Same F H
  n1 : F pn = none
  n2 : F pc = none
  n3 : F it = none
  at_ : H it = some (.lst xs)
  ok : ∀ x ∈ xs, Itm F x
  tn : GxR.TabG H pn
  tc : GxR.TabG H pc
theorem It.mk_ {pn pc it a : Addr} {xs : List V} {F H F' H' : Hp} (h : It pn pc it xs F H) (m : Mk a F H F' H') (na : it ≠ a) (np : pn ≠ a) (nc : pc ≠ a) : It pn pc it xs F' H' := by
  obtain ⟨ps, e1, _⟩ := id h.tn
  obtain ⟨qs, e2, _⟩ := id h.tc
  exact ⟨m.sub, m.fresh _ _ e1 h.n1, m.fresh _ _ e2 h.n2, m.fresh _ _ h.at_ h.n3, m.upto _ _ na h.at_, fun x y => (h.ok x y).more m.mono, tabG_upto m.upto np h.tn, tabG_upto m.upto nc h.tc⟩
theorem It.same {pn pc it : Addr} {xs : List V} {F H H' : Hp} (h : It pn pc it xs F H) (s : Same H H') : It pn pc it xs F H' :=
  ⟨h.sub.trans s, h.n1, h.n2, h.n3, s _ _ h.at_, h.ok, tabG_same s h.tn, tabG_same s h.tc⟩
theorem It.put {pn pc it D : Addr} {xs : List V} {F H : Hp} {o : HO} (h : It pn pc it xs F H) (fD : F D = none) (a1 : it ≠ D) (a2 : pn ≠ D) (a3 : pc ≠ D) : It pn pc it xs F (upd H D o) :=
  ⟨same_put h.sub fD, h.n1, h.n2, h.n3, (upd_ne a1).trans h.at_, h.ok, tabG_at (upd_ne a2) h.tn, tabG_at (upd_ne a3) h.tc⟩
theorem It.grow {pn pc it : Addr} {xs ys : List V} {F H : Hp} (h : It pn pc it xs F H) (ok : ∀ y ∈ ys, Itm F y) : It pn pc it (xs ++ ys) F (upd H it (.lst (xs ++ ys))) := by
  obtain ⟨ps, e1, _⟩ := id h.tn
  obtain ⟨qs, e2, _⟩ := id h.tc
  have m1 : pn ≠ it := ne_of e1 h.at_ (by intro z; cases z)
  have m2 : pc ≠ it := ne_of e2 h.at_ (by intro z; cases z)
  refine ⟨same_put h.sub h.n3, h.n1, h.n2, h.n3, upd_same, fun x m => ?_, tabG_at (upd_ne m1) h.tn, tabG_at (upd_ne m2) h.tc⟩
  rcases List.mem_append.mp m with m | m
  · exact h.ok x m
  · exact ok x m
theorem It.tabs {pn pc it : Addr} {xs : List V} {F H H' : Hp} (h : It pn pc it xs F H) (t : Tabs2 pn pc H H') : It pn pc it xs F H' := by
  obtain ⟨ps, e1, _⟩ := id h.tn
  obtain ⟨qs, e2, _⟩ := id h.tc
  refine ⟨fun b o e => t.keep b o ?_ ?_ (h.sub b o e), h.n1, h.n2, h.n3, t.keep _ _ (ne_of h.at_ e1 (by intro z; cases z)) (ne_of h.at_ e2 (by intro z; cases z)) h.at_, h.ok, t.tn, t.tc⟩
  · exact ne_of_none e h.n1
  · exact ne_of_none e h.n2
/-- items that are being made -/
structure Ac (F0 H0 : Hp) (pn pc : Addr) (xs : List V) (F H : Hp) : Prop where
  bs : Same H0 H
  mo : Same F0 F
  sub : Same F H
  n1 : F pn = none
  n2 : F pc = none
  ok : ∀ x ∈ xs, Itm F x
  tn : GxR.TabG H pn
  tc : GxR.TabG H pc
theorem Ac.new {F0 H0 : Hp} {pn pc p : Addr} {xs : List V} {F H : Hp} (c : Ac F0 H0 pn pc xs F H) (o : HO) (n : H p = none) (h : ∀ G, G p = some o → Itm G (.ref p)) : Ac F0 H0 pn pc (xs ++ [.ref p]) (upd F p o) (upd H p o) := by
  obtain ⟨ps, e1, _⟩ := id c.tn
  obtain ⟨qs, e2, _⟩ := id c.tc
  have fp := c.sub.free n
  refine ⟨c.bs.trans (same_upd n), c.mo.trans (same_upd fp), same_both c.sub n, ?_, ?_, fun x m => ?_, tabG_same (same_upd n) c.tn, tabG_same (same_upd n) c.tc⟩
  · rw [upd_ne (ne_of_none e1 n)]
    exact c.n1
  · rw [upd_ne (ne_of_none e2 n)]
    exact c.n2
  · rcases List.mem_append.mp m with m | m
    · exact (c.ok x m).more (same_upd fp)
    · rw [List.mem_singleton.mp m]
      exact h _ upd_same
def Scs (ys : List V) : Prop := ∀ F, ∀ x ∈ ys, El F x
theorem Scs.nil : Scs [] := fun _ _ m => (nomatch m)
theorem Scs.cons {x : V} {ys : List V} (h : ∀ F, El F x) (t : Scs ys) : Scs (x :: ys) := fun F y m => by
  rcases List.mem_cons.mp m with rfl | m
  · exact h F
  · exact t F y m
theorem scS_ {z : Str} (h : ascB z = true ∧ z.length ≤ 1000) : ∀ F, El F (.str z) := fun _ => el_str (asc_b h.1) h.2
theorem scI_ {i : Int} (h : i.natAbs < 2 ^ 200) : ∀ F, El F (.int i) := fun _ => el_int h
theorem Ac.tup {F0 H0 : Hp} {pn pc p : Addr} {xs ys : List V} {F H : Hp} (c : Ac F0 H0 pn pc xs F H) (n : H p = none) (h : Scs ys) (l : ys.length ≤ 20) : Ac F0 H0 pn pc (xs ++ [.ref p]) (upd F p (.tup ys)) (upd H p (.tup ys)) :=
  c.new _ n fun G e => itm_tup e (h G) l
theorem Ac.lst {F0 H0 : Hp} {pn pc p : Addr} {xs ys : List V} {F H : Hp} (c : Ac F0 H0 pn pc xs F H) (n : H p = none) (h : Scs ys) (l : ys.length ≤ 20) : Ac F0 H0 pn pc (xs ++ [.ref p]) (upd F p (.lst ys)) (upd H p (.lst ys)) :=
  c.new _ n fun G e => itm_lst e (h G) l
theorem Ac.dct {F0 H0 : Hp} {pn pc p : Addr} {xs : List V} {F H : Hp} (c : Ac F0 H0 pn pc xs F H) (n : H p = none) : Ac F0 H0 pn pc (xs ++ [.ref p]) (upd F p (.dK [])) (upd H p (.dK [])) :=
  c.new _ n fun G e => itm_el (el_dct0 e) fun a ys ex e2 => by
    cases ex
    cases e.symm.trans e2
theorem Ac.val {F0 H0 : Hp} {pn pc : Addr} {xs : List V} {x : V} {F H : Hp} (c : Ac F0 H0 pn pc xs F H) (h : ∀ F, El F x) (nr : ∀ a, x ≠ .ref a) : Ac F0 H0 pn pc (xs ++ [x]) F H :=
  ⟨c.bs, c.mo, c.sub, c.n1, c.n2, fun y m => by
    rcases List.mem_append.mp m with m | m
    · exact c.ok y m
    · rw [List.mem_singleton.mp m]
      exact itm_el (h _) fun a ys ex => absurd ex (nr a), c.tn, c.tc⟩
theorem It.ac {pn pc it : Addr} {xs : List V} {F H : Hp} (h : It pn pc it xs F H) : Ac F H pn pc [] F H := ⟨Same.refl _, Same.refl _, h.sub, h.n1, h.n2, fun x m => (nomatch m), h.tn, h.tc⟩
theorem Ac.fin0 {F0 H0 : Hp} {pn pc l : Addr} {ys : List V} {F H : Hp} (c : Ac F0 H0 pn pc ys F H) (n : H l = none) : It pn pc l ys F (upd H l (.lst ys)) :=
  ⟨c.sub.trans (same_upd n), c.n1, c.n2, c.sub.free n, upd_same, c.ok, tabG_same (same_upd n) c.tn, tabG_same (same_upd n) c.tc⟩
theorem Ac.fin {F0 H0 : Hp} {pn pc it l it' : Addr} {xs ys : List V} {F H : Hp} (h : It pn pc it xs F0 H0) (c : Ac F0 H0 pn pc ys F H) (n : H l = none) (n' : upd H l (.lst ys) it' = none) : It pn pc it' (xs ++ ys) F (upd (upd H l (.lst ys)) it' (.lst (xs ++ ys))) := by
  have s := (same_upd (o := .lst ys) n).trans (same_upd (o := .lst (xs ++ ys)) n')
  refine ⟨c.sub.trans s, c.n1, c.n2, (c.sub.trans (same_upd (o := .lst ys) n)).free n', upd_same, fun x m => ?_, tabG_same s c.tn, tabG_same s c.tc⟩
  rcases List.mem_append.mp m with m | m
  · exact (h.ok x m).more c.mo
  · exact c.ok x m
theorem shx_bool (b : Bool) : Shx (.bool b) := (good_bool b (n := 5) (k := 0) (by decide)).gx.shx
abbrev sLaw : Stmt := topS 19
abbrev nLaw : List Str := ["_law_script", "_law_long", "_law_items", "_law_k", "_law_hand_here", "_law_turn", "_law_edit", "_law_item", "_law_before", "_law_due", "_law_again"]
theorem scL : FnScope nLaw ["_law_script"] (defScope sLaw) := ⟨rfl, rfl, rfl, by decide +kernel, rfl, by decide +kernel, by decide +kernel⟩
theorem docs_ok {z : Str} (h : z ∈ ([Str.ofString "a", Str.ofString "b", Str.ofString "doc", Str.ofString "longname"] : List Str)) : ascB z = true ∧ z.length ≤ 8 := by
  have e : ∀ z ∈ ([Str.ofString "a", Str.ofString "b", Str.ofString "doc", Str.ofString "longname"] : List Str), ascB z = true ∧ z.length ≤ 8 := by decide +kernel
  exact e z h
section
variable {P : Program} {w : World} {K : PySem.W.Frag} {mg : Str → Option Value} {base : Heap}
def spLaw (K : PySem.W.Frag) (pn pc : Addr) : Sp := fun vs H Q _ => ∃ (a : Addr) (ns : List Int), vs = [.ref a] ∧ SqL K H a (ns.map V.int) ∧ ns.length ≤ 63 ∧ GxR.TabG H pn ∧ GxR.TabG H pc ∧ ∀ H', Q (.bl true) H'
/-- what is left of the law, once the items are there -/
def Left (pn pc a : Addr) (H : Hp) (Q : VK) (m : Nat) (tR : TS) : Prop := ∀ (L : Str) (it : Addr) (xs : List V) (F1 H1 : Hp), It pn pc it xs F1 H1 → xs.length = m → Same H H1 → H it = none →
  tR { nx := fun _ H' => Q .non H', rt := Q } [some (.ref a), some (.str L), some (.ref it), none, none, none, none, none, none, none, none] H1
theorem ok_law {f fH fO fT fAE fCE fLE fE pn pc : Addr} {fd fdH fdO fdT fdAE fdCE fdLE fdE : FuncData} (F : Fun K "law" "law" sLaw f fd) (sy : ∃ o, base.get? sysModules = some o) (DH : Df K mg "_law_hand" sHand ["_law_script", "_law_k"] fH fdH)
    (DT : Df K mg "_law_take" sTake ["_law_hand_here", "_law_many"] fT fdT) (DO : Df K mg "_law_of" sOf ["_law_hand_here", "_law_some"] fO fdO)
    (DAE : Df K mg "_law_any_edit" sAny ["_law_hand_here", "_law_document"] fAE fdAE) (DCE : Df K mg "_law_changed_edit" sChE ["_law_hand_here", "_law_edit"] fCE fdCE) (DLE : Df K mg "_law_is_edit" sLawEdit ["_law_thing"] fLE fdLE) (DE : Df K mg "is_edit" sIsEdit ["thing"] fE fdE)
    (GAE : FnOk P w K mg base CX0 4 fAE fdAE ["_law_hand_here", "_law_document"] spAny) (GCE : FnOk P w K mg base CX0 4 fCE fdCE ["_law_hand_here", "_law_edit"] spChE) (GLE : FnOk P w K mg base CX0 2 fLE fdLE ["_law_thing"] spLawEdit) (GE : FnOk P w K mg base CX0 2 fE fdE ["thing"] (spEdit pn pc))
    (T : Bl mg) : FnG P w K mg base CX0 5 f fd ["_law_script"] (spLaw K pn pc) := by
  have GH : FnOk P w K mg base CX0 1 fH fdH _ (spHand K) := ok_hand DH.F T
  have GL : FnOk P w K mg base CX0 2 fO fdO _ spOfL := ok_ofL DO.F DT T
  refine okG F scL (fun vs H Q E h => ?_) (fun cdv A outer s H vs Q E gd hr h => ?_)
  · obtain ⟨a, ns, rfl, _⟩ := h
    rfl
  · obtain ⟨a, ns, rfl, hS, hl, tn, tc, q⟩ := h
    -- the check of all items
    obtain ⟨tC, hC, rc⟩ : ∃ tR, PSs (cxOf CX0 P w K mg base nLaw "law" (defScope sLaw) f cdv A outer s H E).nox ((defBody sLaw).drop 6) tR ∧ ∀ (L : Str) (it : Addr) (xs : List V) (F1 H1 : Hp) (y3 y4 y5 y6 y7 y8 y9 y10 : Option V), It pn pc it xs F1 H1 →
        tR { nx := fun _ H' => Q .non H', rt := Q } [some (.ref a), some (.str L), some (.ref it), y3, y4, y5, y6, y7, y8, y9, y10] H1 := by
      refine ⟨_, (pss_cons (ps_for PassesOwn.never rfl (pi_list (pv 2)) (pg_name (i := 7) scL.nd rfl (.inl rfl))
  (pss_cons (ps_par (i := 8) (j := 9) (by rfl) scL.nd rfl rfl (by decide) rfl rfl (pa_cons (pe_callB (call_reprX sy gd hr.units) (by rfl) T.repr (by decide +kernel) (pa_cons (pv 7) pa_nil)) (pa_cons (pe_callB (call_reprX sy gd hr.units) (by rfl) T.repr (by decide +kernel) (pa_cons (pe_call GLE (hr.mono (by decide)) (by rfl) DLE.g DLE.F.kp DLE.b .nil pass0 (pa_cons (pv 7) pa_nil)) pa_nil)) pa_nil)) (by rfl))
  (pss_one (ps_if (PW.pt (pw_or (pt_cmpR op_ne (pe_callB (call_reprX sy gd hr.units) (by rfl) T.repr (by decide +kernel) (pa_cons (pe_call GE (hr.mono (by decide)) (by rfl) DE.g DE.F.kp DE.b .nil pass0 (pa_cons (pv 7) pa_nil)) pa_nil)) (pv 9) (nomark _)) (pw_or1 (pt_cmpR op_ne (pe_callB (call_reprX sy gd hr.units) (by rfl) T.repr (by decide +kernel) (pa_cons (pv 7) pa_nil)) (pv 8) (nomark _)))))
  (pss_one (ps_ret pe_bl))
  pss_nil))))
  (pss_one (ps_ret pe_bl))), fun L it xs F1 H1 y3 y4 y5 y6 y7 y8 y9 y10 its => ?_⟩
      refine ⟨.ref it, rfl, it, rfl, ⟨_, SqL.of its.at_⟩, ?_⟩
      refine for_list (K := K) (a := it) (xs := xs) (fun i σ H2 => ∃ y7 y8 y9, σ = [some (.ref a), some (.str L), some (.ref it), y3, y4, y5, y6, y7, y8, y9, y10] ∧ It pn pc it xs F1 H2) ?_ ?_ ?_ ?_
      · exact ⟨_, _, _, rfl, its⟩
      · rintro i σ H2 _ ⟨_, _, _, _, its2⟩
        exact SqL.of its2.at_
      · rintro i x σ H2 hx ⟨z7, z8, z9, rfl, its2⟩
        obtain ⟨d, sh, ft⟩ := its2.ok x (List.mem_of_getElem? hx)
        have f2 := ft.more its2.sub
        refine ⟨x, rfl, x, d, rfl, f2.dx, sh, x, rfl, x, d, rfl, f2, fun H3 s3 => ?_⟩
        have its3 := its2.same s3
        have f3 := ft.more its3.sub
        refine ⟨.bl (editD d), .bool (editD d), rfl, .bl _, shx_bool _, _, _, rfl, ?_⟩
        refine ⟨x, rfl, x, d, rfl, f3, its3.tn, its3.tc, fun H4 t4 => ?_⟩
        have its4 := its3.tabs t4
        have f4 := ft.more its4.sub
        refine ⟨.bl (editD d), .bool (editD d), rfl, .bl _, shx_bool _, _, rfl, rfl, _, rfl, iffF (ne_self _) ?_⟩
        refine ⟨x, rfl, x, d, rfl, f4.dx, sh, _, rfl, rfl, _, rfl, iffF (ne_self _) ?_⟩
        exact ⟨_, _, _, rfl, its4⟩
      · rintro σ H2 _
        exact q _
    -- the drawn items
    obtain ⟨t5, h5, r5⟩ : ∃ tR, PSs (cxOf CX0 P w K mg base nLaw "law" (defScope sLaw) f cdv A outer s H E).nox ((defBody sLaw).drop 5) tR ∧ Left pn pc a H Q 23 tR := by
      refine ⟨_, (pss_cons (ps_for PassesOwn.never rfl (pi_range1 (by rfl) T.range (pa_cons (pe_callB (call_max2 rfl) (by rfl) T.max (by decide +kernel) (pa_cons pe_int (pa_cons (pe_callB (call_min2 rfl) (by rfl) T.min (by decide +kernel) (pa_cons pe_int (pa_cons (pe_callB call_len_seq (by rfl) T.len PySem.boot_len (pa_cons (pv 0) pa_nil)) pa_nil))) pa_nil))) pa_nil)) (pg_name (i := 3) scL.nd rfl (.inl rfl))
  (pss_cons (ps_set (i := 4) scL.nd rfl (.inr rfl) (pe_call GH (hr.mono (by decide)) (by rfl) DH.g DH.F.kp DH.b .nil pass0 (pa_cons (pv 0) (pa_cons (pv 3) pa_nil))))
  (pss_one (ps_for PassesOwn.never rfl (pi_range1 (by rfl) T.range (pa_cons pe_int pa_nil)) (pg_name (i := 5) scL.nd rfl (.inl rfl))
  (pss_cons (ps_set (i := 6) scL.nd rfl (.inr rfl) (pe_call GAE (hr.mono (by decide)) (by rfl) DAE.g DAE.F.kp DAE.b .nil pass0 (pa_cons (pv 4) (pa_cons (pe_call GL (hr.mono (by decide)) (by rfl) DO.g DO.F.kp DO.b .nil pass0 (pa_cons (pv 4) (pa_cons (pe_lst (pa_cons pe_str (pa_cons pe_str (pa_cons pe_str (pa_cons pe_str pa_nil))))) pa_nil))) pa_nil))))
  (pss_cons (ps_expr (pe_bm PySem.F.plainAttrs_list PySem.F.slot_list_append PySem.F.type_list_append mt_append (pv 2) (pa_cons (pv 6) pa_nil)))
  (pss_one (ps_expr (pe_bm PySem.F.plainAttrs_list PySem.F.slot_list_extend PySem.F.type_list_extend mt_extend (pv 2) (pa_cons (pe_lc (own := [("_law_again", 10)]) (g := gName 10) (tt := tYes) rfl scL.nd (pi_range1 (by rfl) T.range (pa_cons pe_int pa_nil)) (blkOk_by (own := [("_law_again", 10)]) (N := nLaw) (sc := defScope sLaw) (by decide +kernel)) (fun _ _ _ _ _ => (pg_name (i := 10) scL.nd rfl (.inl rfl))) (fun _ _ _ _ _ => pts_nil) (fun _ _ _ _ _ => (pe_call GCE (hr.mono (by decide)) (by rfl) DCE.g DCE.F.kp DCE.b .nil pass0 (pa_cons (pv 4) (pa_cons (pv 6) pa_nil))))) pa_nil))))))))))
  hC), fun L it xs0 F0 H0 its0 xl0 sH0 hit => ?_⟩
      refine ⟨.ref a, rfl, a, _, rfl, .inl (sH0.seq hS), 3, _, rfl, 1, _, rfl, ?_⟩
      rw [List.length_map]
      have hN : (if (if (ns.length : Int) < 3 then (ns.length : Int) else 3) > 1 then (if (ns.length : Int) < 3 then (ns.length : Int) else 3) else 1) ≤ 3 ∧ 0 ≤ (if (if (ns.length : Int) < 3 then (ns.length : Int) else 3) > 1 then (if (ns.length : Int) < 3 then (ns.length : Int) else 3) else 1) := by
        constructor <;> (split <;> (try split) <;> omega)
      generalize (if (if (ns.length : Int) < 3 then (ns.length : Int) else 3) > 1 then (if (ns.length : Int) < 3 then (ns.length : Int) else 3) else 1) = N at hN
      refine ⟨N, rfl, by omega, by omega, ?_⟩
      refine for_range (lo := 0) (n := N.toNat) (fun i σ H1 => ∃ (y3 y4 y5 y6 y7 y8 y9 y10 : Option V) (xs : List V) (F1 : Hp), σ = [some (.ref a), some (.str L), some (.ref it), y3, y4, y5, y6, y7, y8, y9, y10] ∧ It pn pc it xs F1 H1 ∧ xs.length ≤ 23 + 54 * i ∧ Same H H1) ?_ ?_ ?_
      · exact ⟨_, _, _, _, _, _, _, _, xs0, F0, rfl, its0, by omega, sH0⟩
      · rintro i σ H1 hi ⟨y3, y4, y5, y6, y7, y8, y9, y10, xs, F1, rfl, its, xl, s1⟩
        refine ⟨.ref a, rfl, .int (0 + (i : Nat)), rfl, a, _, ns, rfl, s1.seq hS, by omega, by omega, fun H2 p s2 np h2 => ?_⟩
        obtain ⟨ps, en, _⟩ := id its.tn
        obtain ⟨qs, ec, _⟩ := id its.tc
        have itp : it ≠ p := ne_of_none its.at_ np
        have pnp : pn ≠ p := ne_of_none en np
        have pcp : pc ≠ p := ne_of_none ec np
        have F1p : F1 p = none := its.sub.free np
        have Hp0 : H p = none := s1.free np
        refine ⟨6, rfl, by decide, by decide, ?_⟩
        refine for_range (lo := 0) (n := 6) (fun j σ H3 => ∃ (y5 y6 y7 y8 y9 y10 : Option V) (xs : List V) (F3 : Hp), σ = [some (.ref a), some (.str L), some (.ref it), some (.int (0 + (i : Nat))), some (.ref p), y5, y6, y7, y8, y9, y10] ∧ It pn pc it xs F3 H3 ∧ F3 p = none ∧ Hand H3 p (154 * j) ∧ xs.length ≤ 23 + 54 * i + 9 * j ∧ Same H H3) ?_ ?_ ?_
        · exact ⟨_, _, _, _, _, _, xs, F1, rfl, its.same s2, F1p, h2, by omega, s1.trans s2⟩
        · rintro j σ H3 hj ⟨z5, z6, z7, z8, z9, z10, xs3, F3, rfl, its3, F3p, h3, xl3, s3⟩
          refine ⟨.ref p, rfl, .ref p, rfl, by show 4 ≤ sizeLine; decide, fun l nl => ?_⟩
          have lp := Hand.ne h3.some nl
          refine ⟨p, l, _, 154 * j, rfl, h3.new nl, by omega, lp, upd_same, (by show 0 < 4; decide), (by show 4 ≤ 1000; decide), fun H4 v u4 h4 mv => ?_⟩
          obtain ⟨z, mz, rfl⟩ := strs_mem (zs := ["a", "b", "doc", "longname"]) mv
          have gz := docs_ok mz
          have mk4 : Mk p F3 H3 F3 H4 := .draw its3.sub ((Upto.new nl).trans u4) h4.some F3p
          refine ⟨p, z, 154 * j + 1, F3, rfl, h4, by omega, mk4.sub, F3p, asc_b gz.1, gz.2, fun F5 H5 t xs5 mk5 h5 et x4 bx => ?_⟩
          have mk05 := mk4.trans mk5
          have its5 := its3.mk_ mk05 itp pnp pcp
          have F5p := mk05.fa h3.some F3p
          have s5 : Same H H5 := same_upto s3 mk05.upto Hp0
          have xb : xs3.length + 20 ≤ 1000 := by omega
          refine ⟨.ref it, rfl, .inl ⟨rfl, _, SqL.of its5.at_⟩, .ref t, rfl, it, xs3, .ref t, rfl, rfl, its5.at_, Nat.le_trans (show xs3.length + 1 ≤ 1000 by omega) (by decide), ?_⟩
          have its6 := its5.grow (ys := [.ref t]) (fun y m => by rw [List.mem_singleton.mp m]; exact itm_tup et (el_all bx) (by omega))
          have h6 : Hand _ p (154 * j + 1 + 121) := h5.at (upd_ne itp.symm) (H' := upd H5 it (.lst (xs3 ++ [.ref t])))
          have s6 : Same H _ := same_put (o := .lst (xs3 ++ [.ref t])) s5 hit
          generalize upd H5 it (.lst (xs3 ++ [.ref t])) = H6 at its6 h6 s6 ⊢
          refine ⟨.ref it, rfl, .inl ⟨rfl, _, SqL.of its6.at_⟩, 8, rfl, by decide, by decide, fun D nD => ?_⟩
          obtain ⟨ps6, en6, _⟩ := id its6.tn
          obtain ⟨qs6, ec6, _⟩ := id its6.tc
          have itD : it ≠ D := ne_of_none its6.at_ nD
          have pnD : pn ≠ D := ne_of_none en6 nD
          have pcD : pc ≠ D := ne_of_none ec6 nD
          have Dp := Hand.ne h6.some nD
          have hD : H D = none := s6.free nD
          have F5D : F5 D = none := its6.sub.free nD
          refine lc_range (lo := 0) (n := 8) (fun m H7 => ∃ (ys : List V) (F7 : Hp), H7 D = some (.lst ys) ∧ ys.length = m ∧ It pn pc it (xs3 ++ [.ref t]) F7 H7 ∧ F7 D = none ∧ F7 p = none ∧ F7 t = some (.tup xs5) ∧ (∀ y ∈ ys, Itm F7 y) ∧ Hand H7 p (154 * j + 1 + 121 + 4 * m) ∧ Same H H7) ?_ ?_ ?_
          · exact ⟨[], F5, upd_same, rfl, its6.put F5D itD pnD pcD, F5D, F5p, et, fun y m => (nomatch m), h6.new nD, same_put s6 hD⟩
          · rintro m H7 hm ⟨ys, F7, eD, el, its7, F7D, F7p, et7, oky, h7, s7⟩
            refine ⟨rfl, lc_yes ?_⟩
            refine ⟨.ref p, rfl, .ref t, rfl, p, t, xs5, _, F7, rfl, h7, by omega, its7.sub, F7p, et7, x4, bx, fun F8 H8 v mk8 h8 iv => ?_⟩
            have its8 := its7.mk_ mk8 itp pnp pcp
            have F8D := mk8.fresh D _ eD F7D
            refine ⟨_, mk8.upto D _ Dp eD, ?_, ys ++ [v], F8, upd_same, ?_, its8.put F8D itD pnD pcD, F8D, mk8.fa h7.some F7p, mk8.mono _ _ et7, ?_, ?_, ?_⟩
            · rw [el]
              exact small1000 (by omega)
            · rw [List.length_append, el]
              rfl
            · intro y my
              rcases List.mem_append.mp my with my | my
              · exact (oky y my).more mk8.mono
              · rw [List.mem_singleton.mp my]
                exact iv
            · exact (h8.at (upd_ne Dp.symm)).mono (by omega)
            · exact same_put (same_upto s7 mk8.upto Hp0) hD
          · rintro H7 ⟨ys, F7, eD, el, its7, F7D, F7p, et7, oky, h7, s7⟩
            refine ⟨it, D, _, ys, rfl, rfl, its7.at_, eD, ?_, ?_⟩
            · rw [List.length_append, el]
              exact Nat.le_trans (show xs3.length + 1 + 8 ≤ 1000 by omega) (by decide)
            · refine ⟨_, _, _, _, _, _, _, F7, rfl, its7.grow oky, F7p, ?_, ?_, same_put s7 hit⟩
              · exact (h7.at (upd_ne itp.symm)).mono (by omega)
              · rw [List.length_append, List.length_append, el]
                show xs3.length + 1 + 8 ≤ _
                omega
        · rintro σ H3 ⟨z5, z6, z7, z8, z9, z10, xs3, F3, rfl, its3, F3p, h3, xl3, s3⟩
          exact ⟨_, _, _, _, _, _, _, _, xs3, F3, rfl, its3, by omega, s3⟩
      · rintro σ H1 ⟨y3, y4, y5, y6, y7, y8, y9, y10, xs, F1, rfl, its, xl, s1⟩
        exact rc L it xs F1 H1 _ _ _ _ _ _ _ _ its
    obtain ⟨t4, h4, r4⟩ : ∃ tR, PSs (cxOf CX0 P w K mg base nLaw "law" (defScope sLaw) f cdv A outer s H E).nox ((defBody sLaw).drop 4) tR ∧ Left pn pc a H Q 13 tR := by
      refine ⟨_, (pss_cons (ps_set (i := 2) scL.nd rfl (.inl rfl) (pe_op op_cat (pv 2) (pe_lst (pa_cons pe_non (pa_cons pe_bl (pa_cons pe_int (pa_cons pe_str (pa_cons pe_str (pa_cons (pe_tup pa_nil) (pa_cons (pe_lst pa_nil) (pa_cons pe_dnewK (pa_cons (pe_tup (pa_cons pe_str pa_nil)) (pa_cons (pe_tup (pa_cons pe_non (pa_cons pe_non (pa_cons pe_non (pa_cons pe_non pa_nil))))) pa_nil)))))))))))))
  h5), fun L it xs F1 H1 its xl s1 hit => ?_⟩
      refine ⟨.ref it, rfl, by show 0 ≤ sizeLine; decide, fun p1 e1 => ⟨by show 0 ≤ sizeLine; decide, fun p2 e2 => fun p3 e3 => ⟨by show 1 ≤ sizeLine; decide, fun p4 e4 => ⟨by show 4 ≤ sizeLine; decide, fun p5 e5 => ⟨by show 10 ≤ sizeLine; decide, fun l nl => ?_⟩⟩⟩⟩⟩
      have c : Ac F1 H1 pn pc [.non, .bl true, .int 0, .str "", .str "edit", .ref p1, .ref p2, .ref p3, .ref p4, .ref p5] _ _ := (((((((((its.ac.val (fun _ => el_non) (fun _ z => (nomatch z))).val (fun _ => el_bl _) (fun _ z => (nomatch z))).val (scI_ (by decide +kernel)) (fun _ z => (nomatch z))).val (scS_ (by decide +kernel)) (fun _ z => (nomatch z))).val (scS_ (by decide +kernel)) (fun _ z => (nomatch z))).tup (ys := []) e1 .nil (by decide)).lst (ys := []) e2 .nil (by decide)).dct e3).tup (ys := [.str "a"]) e4 (.cons (scS_ (by decide +kernel)) .nil) (by decide)).tup (ys := [.non, .non, .non, .non]) e5 (.cons (fun _ => el_non) (.cons (fun _ => el_non) (.cons (fun _ => el_non) (.cons (fun _ => el_non) .nil)))) (by show 4 ≤ 20; decide)
      refine ⟨it, l, _, _, rfl, rfl, (same_upd nl) _ _ (c.bs _ _ its.at_), upd_same, ?_, fun it' nit => ?_⟩
      · rw [xl]
        show 13 + 10 ≤ sizeLine
        decide
      · refine r5 L it' _ _ _ (Ac.fin its c nl nit) ?_ ((s1.trans c.bs).trans ((same_upd nl).trans (same_upd nit))) (((s1.trans c.bs).trans (same_upd nl)).free nit)
        rw [List.length_append, xl]
        rfl
    obtain ⟨t3, h3, r3⟩ : ∃ tR, PSs (cxOf CX0 P w K mg base nLaw "law" (defScope sLaw) f cdv A outer s H E).nox ((defBody sLaw).drop 3) tR ∧ Left pn pc a H Q 8 tR := by
      refine ⟨_, (pss_cons (ps_set (i := 2) scL.nd rfl (.inl rfl) (pe_op op_cat (pv 2) (pe_lst (pa_cons (pe_lst (pa_cons pe_str (pa_cons pe_int (pa_cons pe_str (pa_cons pe_str pa_nil))))) (pa_cons (pe_tup (pa_cons pe_str (pa_cons pe_int (pa_cons pe_str pa_nil)))) (pa_cons (pe_tup (pa_cons pe_str (pa_cons pe_int (pa_cons pe_str (pa_cons pe_str (pa_cons pe_str pa_nil)))))) (pa_cons (pe_tup (pa_cons pe_str (pa_cons pe_str (pa_cons pe_str (pa_cons pe_str pa_nil))))) (pa_cons (pe_tup (pa_cons pe_str (pa_cons pe_int (pa_cons pe_str (pa_cons pe_str pa_nil))))) pa_nil))))))))
  h4), fun L it xs F1 H1 its xl s1 hit => ?_⟩
      refine ⟨.ref it, rfl, by show 4 ≤ sizeLine; decide, fun p1 e1 => ⟨by show 3 ≤ sizeLine; decide, fun p2 e2 => ⟨by show 5 ≤ sizeLine; decide, fun p3 e3 => ⟨by show 4 ≤ sizeLine; decide, fun p4 e4 => ⟨by show 4 ≤ sizeLine; decide, fun p5 e5 => ⟨by show 5 ≤ sizeLine; decide, fun l nl => ?_⟩⟩⟩⟩⟩⟩
      have c : Ac F1 H1 pn pc [.ref p1, .ref p2, .ref p3, .ref p4, .ref p5] _ _ := ((((its.ac.lst (ys := [.str "a", .int 0, .str "", .str ""]) e1 (.cons (scS_ (by decide +kernel)) (.cons (scI_ (by decide +kernel)) (.cons (scS_ (by decide +kernel)) (.cons (scS_ (by decide +kernel)) .nil)))) (by show 4 ≤ 20; decide)).tup (ys := [.str "a", .int 0, .str ""]) e2 (.cons (scS_ (by decide +kernel)) (.cons (scI_ (by decide +kernel)) (.cons (scS_ (by decide +kernel)) .nil))) (by show 3 ≤ 20; decide)).tup (ys := [.str "a", .int 0, .str "", .str "", .str ""]) e3 (.cons (scS_ (by decide +kernel)) (.cons (scI_ (by decide +kernel)) (.cons (scS_ (by decide +kernel)) (.cons (scS_ (by decide +kernel)) (.cons (scS_ (by decide +kernel)) .nil))))) (by show 5 ≤ 20; decide)).tup (ys := [.str "a", .str "0", .str "", .str ""]) e4 (.cons (scS_ (by decide +kernel)) (.cons (scS_ (by decide +kernel)) (.cons (scS_ (by decide +kernel)) (.cons (scS_ (by decide +kernel)) .nil)))) (by show 4 ≤ 20; decide)).tup (ys := [.str "", .int 0, .str "", .str ""]) e5 (.cons (scS_ (by decide +kernel)) (.cons (scI_ (by decide +kernel)) (.cons (scS_ (by decide +kernel)) (.cons (scS_ (by decide +kernel)) .nil)))) (by show 4 ≤ 20; decide)
      refine ⟨it, l, _, _, rfl, rfl, (same_upd nl) _ _ (c.bs _ _ its.at_), upd_same, ?_, fun it' nit => ?_⟩
      · rw [xl]
        show 8 + 5 ≤ sizeLine
        decide
      · refine r4 L it' _ _ _ (Ac.fin its c nl nit) ?_ ((s1.trans c.bs).trans ((same_upd nl).trans (same_upd nit))) (((s1.trans c.bs).trans (same_upd nl)).free nit)
        rw [List.length_append, xl]
        rfl
    obtain ⟨t2, h2, r2⟩ : ∃ tR, PSs (cxOf CX0 P w K mg base nLaw "law" (defScope sLaw) f cdv A outer s H E).nox ((defBody sLaw).drop 2) tR ∧ Left pn pc a H Q 4 tR := by
      refine ⟨_, (pss_cons (ps_set (i := 2) scL.nd rfl (.inl rfl) (pe_op op_cat (pv 2) (pe_lst (pa_cons (pe_tup (pa_cons pe_str (pa_cons pe_int (pa_cons pe_str (pa_cons pe_str pa_nil))))) (pa_cons (pe_tup (pa_cons pe_str (pa_cons (pe_un un_neg pe_int) (pa_cons pe_str (pa_cons pe_str pa_nil))))) (pa_cons (pe_tup (pa_cons pe_str (pa_cons pe_bl (pa_cons pe_str (pa_cons pe_str pa_nil))))) (pa_cons (pe_tup (pa_cons pe_str (pa_cons (pe_op op_pow pe_int pe_int) (pa_cons pe_str (pa_cons pe_str pa_nil))))) pa_nil)))))))
  h3), fun L it xs F1 H1 its xl s1 hit => ?_⟩
      refine ⟨.ref it, rfl, by show 4 ≤ sizeLine; decide, fun p1 e1 => ⟨1, rfl, by show 4 ≤ sizeLine; decide, fun p2 e2 => ⟨by show 4 ≤ sizeLine; decide, fun p3 e3 => ⟨10, 30, rfl, rfl, ⟨by decide, by decide, by decide⟩, by show 4 ≤ sizeLine; decide, fun p4 e4 => ⟨by show 4 ≤ sizeLine; decide, fun l nl => ?_⟩⟩⟩⟩⟩
      have c : Ac F1 H1 pn pc [.ref p1, .ref p2, .ref p3, .ref p4] _ _ := (((its.ac.tup (ys := [.str "abcdefghi", .int 0, .str "", .str ""]) e1 (.cons (scS_ (by decide +kernel)) (.cons (scI_ (by decide +kernel)) (.cons (scS_ (by decide +kernel)) (.cons (scS_ (by decide +kernel)) .nil)))) (by show 4 ≤ 20; decide)).tup (ys := [.str "a", .int (-1), .str "", .str ""]) e2 (.cons (scS_ (by decide +kernel)) (.cons (scI_ (by decide +kernel)) (.cons (scS_ (by decide +kernel)) (.cons (scS_ (by decide +kernel)) .nil)))) (by show 4 ≤ 20; decide)).tup (ys := [.str "a", .bl true, .str "", .str ""]) e3 (.cons (scS_ (by decide +kernel)) (.cons (fun _ => el_bl _) (.cons (scS_ (by decide +kernel)) (.cons (scS_ (by decide +kernel)) .nil)))) (by show 4 ≤ 20; decide)).tup (ys := [.str "a", .int (10 ^ (30 : Int).toNat), .str "", .str ""]) e4 (.cons (scS_ (by decide +kernel)) (.cons (scI_ (by decide +kernel)) (.cons (scS_ (by decide +kernel)) (.cons (scS_ (by decide +kernel)) .nil)))) (by show 4 ≤ 20; decide)
      refine ⟨it, l, _, _, rfl, rfl, (same_upd nl) _ _ (c.bs _ _ its.at_), upd_same, ?_, fun it' nit => ?_⟩
      · rw [xl]
        show 4 + 4 ≤ sizeLine
        decide
      · refine r3 L it' _ _ _ (Ac.fin its c nl nit) ?_ ((s1.trans c.bs).trans ((same_upd nl).trans (same_upd nit))) (((s1.trans c.bs).trans (same_upd nl)).free nit)
        rw [List.length_append, xl]
        rfl
    refine ⟨_, (pss_cons (ps_set (i := 1) scL.nd rfl (.inl rfl) (pe_op op_mulS pe_str pe_int))
  (pss_cons (ps_set (i := 2) scL.nd rfl (.inl rfl) (pe_lst (pa_cons (pe_tup (pa_cons pe_str (pa_cons pe_int (pa_cons (pv 1) (pa_cons (pv 1) pa_nil))))) (pa_cons (pe_tup (pa_cons pe_str (pa_cons pe_int (pa_cons (pe_op op_add_str (pv 1) pe_str) (pa_cons pe_str pa_nil))))) (pa_cons (pe_tup (pa_cons pe_str (pa_cons pe_int (pa_cons pe_str (pa_cons (pe_op op_add_str (pv 1) pe_str) pa_nil))))) (pa_cons (pe_tup (pa_cons pe_str (pa_cons pe_int (pa_cons pe_str (pa_cons pe_str pa_nil))))) pa_nil))))))
  h2)), ?_⟩
    refine ⟨"x", 400, rfl, rfl, by decide, by decide, by decide +kernel, fun r hr' => ?_⟩
    have rl := rep_length hr'
    have w1 : (Str.ofString "x").length = 1 := by decide +kernel
    rw [w1] at rl
    have ax : Asc "x" := asc_b (by decide +kernel)
    have ar : Asc r := rep_asc hr' ax
    have rx : (r ++ Str.ofString "x").length = 401 := by
      rw [strLen_append, rl, w1]
    have arx : Asc (r ++ Str.ofString "x") := fun y my => by
      rw [tl_app] at my
      rcases List.mem_append.mp my with my | my
      · exact ar y my
      · exact ax y my
    have z1 : (1000 : Nat) ≤ sizeLine := by decide
    refine ⟨.str r, rfl, .str r, rfl, by show 4 ≤ sizeLine; decide, fun p1 e1 => ⟨.str r, rfl, r, "x", rfl, rfl, by omega, by show 4 ≤ sizeLine; decide, fun p2 e2 => ⟨.str r, rfl, r, "x", rfl, rfl, by omega, by show 4 ≤ sizeLine; decide, fun p3 e3 => ⟨by show 4 ≤ sizeLine; decide, fun p4 e4 => ⟨by show 4 ≤ sizeLine; decide, fun l nl => ?_⟩⟩⟩⟩⟩
    have c0 : Ac (fun _ => none) H pn pc [] (fun _ => none) H := ⟨Same.refl _, Same.refl _, fun b o e => (nomatch e), rfl, rfl, fun x m => (nomatch m), tn, tc⟩
    have er : ∀ F, El F (.str r) := fun _ => el_str ar (by omega)
    have erx : ∀ F, El F (.str (r ++ Str.ofString "x")) := fun _ => el_str arx (by omega)
    have c : Ac (fun _ => none) H pn pc [.ref p1, .ref p2, .ref p3, .ref p4] _ _ := (((c0.tup (ys := [.str "a", .int 0, .str r, .str r]) e1 (.cons (scS_ (by decide +kernel)) (.cons (scI_ (by decide +kernel)) (.cons er (.cons er .nil)))) (by show 4 ≤ 20; decide)).tup (ys := [.str "a", .int 0, .str (r ++ Str.ofString "x"), .str ""]) e2 (.cons (scS_ (by decide +kernel)) (.cons (scI_ (by decide +kernel)) (.cons erx (.cons (scS_ (by decide +kernel)) .nil)))) (by show 4 ≤ 20; decide)).tup (ys := [.str "a", .int 0, .str "", .str (r ++ Str.ofString "x")]) e3 (.cons (scS_ (by decide +kernel)) (.cons (scI_ (by decide +kernel)) (.cons (scS_ (by decide +kernel)) (.cons erx .nil)))) (by show 4 ≤ 20; decide)).tup (ys := [.str "abcdefgh", .int 0, .str "", .str ""]) e4 (.cons (scS_ (by decide +kernel)) (.cons (scI_ (by decide +kernel)) (.cons (scS_ (by decide +kernel)) (.cons (scS_ (by decide +kernel)) .nil)))) (by show 4 ≤ 20; decide)
    exact r2 r l _ _ _ (c.fin0 nl) rfl (c.bs.trans (same_upd nl)) (c.bs.free nl)
end
end Cu

namespace Cu
open PySem PySem.Spec PyProof.Rows L2
theorem all_mk {w : World} {K : PySem.W.Frag} {h : Heap} {mg : Str → Option Value} {fa fN fC fP fE fH fT fO fX fY fZ fI fA fD fQ fL : Addr} {q : Program} {loose : List Str} {mean : ExcName → Option Value} {mb : Str → Option Value} {cN0 pN cC0 pC : Addr} {dN0 dC0 : DefRec} {oxN oxC : Value} {oyN oyC : Option Addr} {szN szC : Array (Option Value)} {vsN vsC : Array Value} (TT : Top q loose mean mg mb h) {t_MOST_LETTERS t_MOST_CHARACTERS t_PERCENT : Tok} (X : K.In h) (G : h.Ns mainGlobals mg) (hfa : mg "law" = some (.ref fa))
    {odN anN odC anC odP anP odE anE odH anH odT anT odO anO odX anX odY anY odZ anZ odI anI odA anA odD anD odQ anQ odL anL : Option Addr} {slN slC slP slE slH slT slO slX slY slZ slI slA slD slQ slL : Array (Option Value)} {ocN kVN dcN pmN ctN ocC kVC dcC pmC ctC ocP kVP dcP pmP ctP cdP ocE kVE dcE pmE ctE cdE ocH kVH dcH pmH ctH cdH ocT kVT dcT pmT ctT cdT ocO kVO dcO pmO ctO cdO ocX kVX dcX pmX ctX cdX ocY kVY dcY pmY ctY cdY ocZ kVZ dcZ pmZ ctZ cdZ ocI kVI dcI pmI ctI cdI ocA kVA dcA pmA ctA cdA ocD kVD dcD pmD ctD cdD ocQ kVQ dcQ pmQ ctQ cdQ ocL kVL dcL pmL ctL cdL : Value}
    (aN : PySem.W.nsIn K mainGlobals "is_name" = some (some (.ref fN))) (lN : K.lookup fN = some ⟨ocN, odN, .func (PySem.W.fnOf "is_name" "is_name" (defArgs sIsName) (defBody sIsName) (defScope sIsName) .none kVN dcN pmN anN (.ref cN0) ctN), slN⟩)
    (cN : PySem.W.codeIn K (.ref cN0) "is_name" = true) (kN : PySem.W.keepIn K (.ref fN) = true)
    (aC : PySem.W.nsIn K mainGlobals "is_content" = some (some (.ref fC))) (lC : K.lookup fC = some ⟨ocC, odC, .func (PySem.W.fnOf "is_content" "is_content" (defArgs sIsContent) (defBody sIsContent) (defScope sIsContent) .none kVC dcC pmC anC (.ref cC0) ctC), slC⟩)
    (cC : PySem.W.codeIn K (.ref cC0) "is_content" = true) (kC : PySem.W.keepIn K (.ref fC) = true)
    (aP : PySem.W.nsIn K mainGlobals "is_position" = some (some (.ref fP))) (lP : K.lookup fP = some ⟨ocP, odP, .func (PySem.W.fnOf "is_position" "is_position" (defArgs sIsPos) (defBody sIsPos) (defScope sIsPos) .none kVP dcP pmP anP cdP ctP), slP⟩)
    (cP : PySem.W.codeIn K cdP "is_position" = true) (kP : PySem.W.keepIn K (.ref fP) = true)
    (aE : PySem.W.nsIn K mainGlobals "is_edit" = some (some (.ref fE))) (lE : K.lookup fE = some ⟨ocE, odE, .func (PySem.W.fnOf "is_edit" "is_edit" (defArgs sIsEdit) (defBody sIsEdit) (defScope sIsEdit) .none kVE dcE pmE anE cdE ctE), slE⟩)
    (cE : PySem.W.codeIn K cdE "is_edit" = true) (kE : PySem.W.keepIn K (.ref fE) = true)
    (aH : PySem.W.nsIn K mainGlobals "_law_hand" = some (some (.ref fH))) (lH : K.lookup fH = some ⟨ocH, odH, .func (PySem.W.fnOf "_law_hand" "_law_hand" (defArgs sHand) (defBody sHand) (defScope sHand) .none kVH dcH pmH anH cdH ctH), slH⟩)
    (cH : PySem.W.codeIn K cdH "_law_hand" = true) (kH : PySem.W.keepIn K (.ref fH) = true)
    (aT : PySem.W.nsIn K mainGlobals "_law_take" = some (some (.ref fT))) (lT : K.lookup fT = some ⟨ocT, odT, .func (PySem.W.fnOf "_law_take" "_law_take" (defArgs sTake) (defBody sTake) (defScope sTake) .none kVT dcT pmT anT cdT ctT), slT⟩)
    (cT : PySem.W.codeIn K cdT "_law_take" = true) (kT : PySem.W.keepIn K (.ref fT) = true)
    (aO : PySem.W.nsIn K mainGlobals "_law_of" = some (some (.ref fO))) (lO : K.lookup fO = some ⟨ocO, odO, .func (PySem.W.fnOf "_law_of" "_law_of" (defArgs sOf) (defBody sOf) (defScope sOf) .none kVO dcO pmO anO cdO ctO), slO⟩)
    (cO : PySem.W.codeIn K cdO "_law_of" = true) (kO : PySem.W.keepIn K (.ref fO) = true)
    (aX : PySem.W.nsIn K mainGlobals "_law_is_name" = some (some (.ref fX))) (lX : K.lookup fX = some ⟨ocX, odX, .func (PySem.W.fnOf "_law_is_name" "_law_is_name" (defArgs sLawName) (defBody sLawName) (defScope sLawName) .none kVX dcX pmX anX cdX ctX), slX⟩)
    (cX : PySem.W.codeIn K cdX "_law_is_name" = true) (kX : PySem.W.keepIn K (.ref fX) = true)
    (aY : PySem.W.nsIn K mainGlobals "_law_is_content" = some (some (.ref fY))) (lY : K.lookup fY = some ⟨ocY, odY, .func (PySem.W.fnOf "_law_is_content" "_law_is_content" (defArgs sLawContent) (defBody sLawContent) (defScope sLawContent) .none kVY dcY pmY anY cdY ctY), slY⟩)
    (cY : PySem.W.codeIn K cdY "_law_is_content" = true) (kY : PySem.W.keepIn K (.ref fY) = true)
    (aZ : PySem.W.nsIn K mainGlobals "_law_is_edit" = some (some (.ref fZ))) (lZ : K.lookup fZ = some ⟨ocZ, odZ, .func (PySem.W.fnOf "_law_is_edit" "_law_is_edit" (defArgs sLawEdit) (defBody sLawEdit) (defScope sLawEdit) .none kVZ dcZ pmZ anZ cdZ ctZ), slZ⟩)
    (cZ : PySem.W.codeIn K cdZ "_law_is_edit" = true) (kZ : PySem.W.keepIn K (.ref fZ) = true)
    (aI : PySem.W.nsIn K mainGlobals "_law_piece" = some (some (.ref fI))) (lI : K.lookup fI = some ⟨ocI, odI, .func (PySem.W.fnOf "_law_piece" "_law_piece" (defArgs sPiece) (defBody sPiece) (defScope sPiece) .none kVI dcI pmI anI cdI ctI), slI⟩)
    (cI : PySem.W.codeIn K cdI "_law_piece" = true) (kI : PySem.W.keepIn K (.ref fI) = true)
    (aA : PySem.W.nsIn K mainGlobals "_law_any_edit" = some (some (.ref fA))) (lA : K.lookup fA = some ⟨ocA, odA, .func (PySem.W.fnOf "_law_any_edit" "_law_any_edit" (defArgs sAny) (defBody sAny) (defScope sAny) .none kVA dcA pmA anA cdA ctA), slA⟩)
    (cA : PySem.W.codeIn K cdA "_law_any_edit" = true) (kA : PySem.W.keepIn K (.ref fA) = true)
    (aD : PySem.W.nsIn K mainGlobals "_law_odd_part" = some (some (.ref fD))) (lD : K.lookup fD = some ⟨ocD, odD, .func (PySem.W.fnOf "_law_odd_part" "_law_odd_part" (defArgs sOdd) (defBody sOdd) (defScope sOdd) .none kVD dcD pmD anD cdD ctD), slD⟩)
    (cD : PySem.W.codeIn K cdD "_law_odd_part" = true) (kD : PySem.W.keepIn K (.ref fD) = true)
    (aQ : PySem.W.nsIn K mainGlobals "_law_changed_edit" = some (some (.ref fQ))) (lQ : K.lookup fQ = some ⟨ocQ, odQ, .func (PySem.W.fnOf "_law_changed_edit" "_law_changed_edit" (defArgs sChE) (defBody sChE) (defScope sChE) .none kVQ dcQ pmQ anQ cdQ ctQ), slQ⟩)
    (cQ : PySem.W.codeIn K cdQ "_law_changed_edit" = true) (kQ : PySem.W.keepIn K (.ref fQ) = true)
    (aL : PySem.W.nsIn K mainGlobals "law" = some (some (.ref fL))) (lL : K.lookup fL = some ⟨ocL, odL, .func (PySem.W.fnOf "law" "law" (defArgs sLaw) (defBody sLaw) (defScope sLaw) .none kVL dcL pmL anL cdL ctL), slL⟩)
    (cL : PySem.W.codeIn K cdL "law" = true) (kL : PySem.W.keepIn K (.ref fL) = true)
    (z_len : PySem.W.nsIn K mainGlobals "len" = some none)
    (z_abs : PySem.W.nsIn K mainGlobals "abs" = some none)
    (z_int : PySem.W.nsIn K mainGlobals "int" = some none)
    (z_range : PySem.W.nsIn K mainGlobals "range" = some none)
    (z_repr : PySem.W.nsIn K mainGlobals "repr" = some none)
    (z_max : PySem.W.nsIn K mainGlobals "max" = some none)
    (z_min : PySem.W.nsIn K mainGlobals "min" = some none)
    (z_all : PySem.W.nsIn K mainGlobals "all" = some none)
    (z_ord : PySem.W.nsIn K mainGlobals "ord" = some none)
    (z_isinstance : PySem.W.nsIn K mainGlobals "isinstance" = some none)
    (z_str : PySem.W.nsIn K mainGlobals "str" = some none)
    (z_bool : PySem.W.nsIn K mainGlobals "bool" = some none)
    (z_tuple : PySem.W.nsIn K mainGlobals "tuple" = some none)
    (z_list : PySem.W.nsIn K mainGlobals "list" = some none)
    (v_MOST_LETTERS : PySem.W.nsIn K mainGlobals "MOST_LETTERS" = some (some (.int 8 t_MOST_LETTERS)))
    (v_MOST_CHARACTERS : PySem.W.nsIn K mainGlobals "MOST_CHARACTERS" = some (some (.int 400 t_MOST_CHARACTERS)))
    (v_PERCENT : PySem.W.nsIn K mainGlobals "PERCENT" = some (some (.int 37 t_PERCENT)))
    (rN : (recsOf q).find? (fun e => e.name == ("is_name" : Str)) = some dN0) (tlN : K.lookup cN0 = some ⟨oxN, oyN, .fields vsN, szN⟩) (pvN : vsN[11]? = some (.ref pN))
    (rC : (recsOf q).find? (fun e => e.name == ("is_content" : Str)) = some dC0) (tlC : K.lookup cC0 = some ⟨oxC, oyC, .fields vsC, szC⟩) (pvC : vsC[11]? = some (.ref pC))
    (nt : PySem.W.noTabs K = true) (np_ : decide (pN = pC) = false) : LawG PySem.Challenge.rw_crossundo_k02_single_edits w K 5 63 "_law_script" mg fa h := by
  have e := hfa.symm.trans (PySem.W.mg_of X G aL)
  cases e
  have T : Bl mg := { len := PySem.W.mg_none_of X G z_len, abs := PySem.W.mg_none_of X G z_abs, int := PySem.W.mg_none_of X G z_int, range := PySem.W.mg_none_of X G z_range, repr := PySem.W.mg_none_of X G z_repr, max := PySem.W.mg_none_of X G z_max, min := PySem.W.mg_none_of X G z_min, all := PySem.W.mg_none_of X G z_all, ord := PySem.W.mg_none_of X G z_ord, isinstance := PySem.W.mg_none_of X G z_isinstance, str := PySem.W.mg_none_of X G z_str, bool := PySem.W.mg_none_of X G z_bool, tuple := PySem.W.mg_none_of X G z_tuple, list := PySem.W.mg_none_of X G z_list }
  have tabN := tabIn_of aN lN rfl tlN pvN
  have hd_N := PySem.W.tab_of TT X rN tabN
  have tabC := tabIn_of aC lC rfl tlC pvC
  have hd_C := PySem.W.tab_of TT X rC tabC
  have np : pN ≠ pC := of_decide_eq_false np_
  have FN := fun_mk (st := sIsName) lN cN kN
  have DN : Df K mg "is_name" sIsName ["thing"] fN _ := ⟨FN, PySem.W.mg_of X G aN, FN.binds (ps := ["thing"]) fun _ _ _ _ _ _ us hl => match us, hl with | [_], _ => rfl⟩
  have FC := fun_mk (st := sIsContent) lC cC kC
  have DC : Df K mg "is_content" sIsContent ["thing"] fC _ := ⟨FC, PySem.W.mg_of X G aC, FC.binds (ps := ["thing"]) fun _ _ _ _ _ _ us hl => match us, hl with | [_], _ => rfl⟩
  have FP := fun_mk (st := sIsPos) lP cP kP
  have DP : Df K mg "is_position" sIsPos ["thing"] fP _ := ⟨FP, PySem.W.mg_of X G aP, FP.binds (ps := ["thing"]) fun _ _ _ _ _ _ us hl => match us, hl with | [_], _ => rfl⟩
  have FE := fun_mk (st := sIsEdit) lE cE kE
  have DE : Df K mg "is_edit" sIsEdit ["thing"] fE _ := ⟨FE, PySem.W.mg_of X G aE, FE.binds (ps := ["thing"]) fun _ _ _ _ _ _ us hl => match us, hl with | [_], _ => rfl⟩
  have FH := fun_mk (st := sHand) lH cH kH
  have DH : Df K mg "_law_hand" sHand ["_law_script", "_law_k"] fH _ := ⟨FH, PySem.W.mg_of X G aH, FH.binds (ps := ["_law_script", "_law_k"]) fun _ _ _ _ _ _ us hl => match us, hl with | [_, _], _ => rfl⟩
  have FT := fun_mk (st := sTake) lT cT kT
  have DT : Df K mg "_law_take" sTake ["_law_hand_here", "_law_many"] fT _ := ⟨FT, PySem.W.mg_of X G aT, FT.binds (ps := ["_law_hand_here", "_law_many"]) fun _ _ _ _ _ _ us hl => match us, hl with | [_, _], _ => rfl⟩
  have FO := fun_mk (st := sOf) lO cO kO
  have DO : Df K mg "_law_of" sOf ["_law_hand_here", "_law_some"] fO _ := ⟨FO, PySem.W.mg_of X G aO, FO.binds (ps := ["_law_hand_here", "_law_some"]) fun _ _ _ _ _ _ us hl => match us, hl with | [_, _], _ => rfl⟩
  have FX := fun_mk (st := sLawName) lX cX kX
  have DX : Df K mg "_law_is_name" sLawName ["_law_thing"] fX _ := ⟨FX, PySem.W.mg_of X G aX, FX.binds (ps := ["_law_thing"]) fun _ _ _ _ _ _ us hl => match us, hl with | [_], _ => rfl⟩
  have FY := fun_mk (st := sLawContent) lY cY kY
  have DY : Df K mg "_law_is_content" sLawContent ["_law_thing"] fY _ := ⟨FY, PySem.W.mg_of X G aY, FY.binds (ps := ["_law_thing"]) fun _ _ _ _ _ _ us hl => match us, hl with | [_], _ => rfl⟩
  have FZ := fun_mk (st := sLawEdit) lZ cZ kZ
  have DZ : Df K mg "_law_is_edit" sLawEdit ["_law_thing"] fZ _ := ⟨FZ, PySem.W.mg_of X G aZ, FZ.binds (ps := ["_law_thing"]) fun _ _ _ _ _ _ us hl => match us, hl with | [_], _ => rfl⟩
  have FI := fun_mk (st := sPiece) lI cI kI
  have DI : Df K mg "_law_piece" sPiece ["_law_hand_here", "_law_most"] fI _ := ⟨FI, PySem.W.mg_of X G aI, FI.binds (ps := ["_law_hand_here", "_law_most"]) fun _ _ _ _ _ _ us hl => match us, hl with | [_, _], _ => rfl⟩
  have FA := fun_mk (st := sAny) lA cA kA
  have DA : Df K mg "_law_any_edit" sAny ["_law_hand_here", "_law_document"] fA _ := ⟨FA, PySem.W.mg_of X G aA, FA.binds (ps := ["_law_hand_here", "_law_document"]) fun _ _ _ _ _ _ us hl => match us, hl with | [_, _], _ => rfl⟩
  have FD := fun_mk (st := sOdd) lD cD kD
  have DD : Df K mg "_law_odd_part" sOdd ["_law_hand_here", "_law_part"] fD _ := ⟨FD, PySem.W.mg_of X G aD, FD.binds (ps := ["_law_hand_here", "_law_part"]) fun _ _ _ _ _ _ us hl => match us, hl with | [_, _], _ => rfl⟩
  have FQ := fun_mk (st := sChE) lQ cQ kQ
  have DQ : Df K mg "_law_changed_edit" sChE ["_law_hand_here", "_law_edit"] fQ _ := ⟨FQ, PySem.W.mg_of X G aQ, FQ.binds (ps := ["_law_hand_here", "_law_edit"]) fun _ _ _ _ _ _ us hl => match us, hl with | [_, _], _ => rfl⟩
  have FL := fun_mk (st := sLaw) lL cL kL
  refine ⟨PySem.W.fnOf "law" "law" (defArgs sLaw) (defBody sLaw) (defScope sLaw) .none kVL dcL pmL anL cdL ctL, [(cN0, pN), (cC0, pC)], spLaw K pN pC, tabsAt_of hd_N hd_C, tabsK_of (out_of_K X nt hd_N.2) (out_of_K X nt hd_C.2), tabsC_of hd_N hd_C, fun s v => .of_eq rfl, fun H a ns hl hT hS => ⟨a, ns, rfl, hS, hl, ⟨#[], hT _ List.mem_cons_self, tri0⟩, ⟨#[], hT _ (List.mem_cons_of_mem _ List.mem_cons_self), tri0⟩, fun _ => rfl⟩, fun base _ _ TB sy => ?_⟩
  have tbN := TB _ List.mem_cons_self
  have tbC := TB _ (List.mem_cons_of_mem _ List.mem_cons_self)
  have GN : FnOk PySem.Challenge.rw_crossundo_k02_single_edits.prog w K mg base CX0 1 _ _ _ (spIs K pN nameB) := ok_isName FN (code_of aN lN tabN) tbN T (PySem.W.mg_of X G v_MOST_LETTERS)
  have GC : FnOk PySem.Challenge.rw_crossundo_k02_single_edits.prog w K mg base CX0 1 _ _ _ (spIs K pC contB) := ok_isContent FC (code_of aC lC tabC) tbC T (PySem.W.mg_of X G v_MOST_CHARACTERS) (PySem.W.mg_of X G v_PERCENT)
  exact ok_law FL sy DH DT DO DA DQ DZ DE (ok_any FA DT DO DI T) (ok_chE FQ DT DO DD T) (ok_lawEdit FZ DX DY T) (ok_isEdit FE np DN DC DP GN GC T) T
end Cu
open PySem PySem.W PyProof.Rows
set_option maxRecDepth 100000 in
set_option maxHeartbeats 0 in
theorem PySem.Challenge.cw_crossundo_k02_single_edits_holds : PySem.Challenge.rw_crossundo_k02_single_edits.Holds := by
  w_on; o_law; k_head; (case hw => w_witness2)
  k_fill
  refine Cu.walkG (l := PySem.Challenge.rw_crossundo_k02_single_edits) (n := 63) (k := 5) (x := "_law_script") rfl (by decide) rfl ⟨rfl, by decide, by decide⟩ (fun w h Y => PySem.W.kIn_of Y) (by rfl) ?F
  case F =>
    intro w mg mb mean fa h TT Y KX G hmg
    refine' Cu.all_mk TT KX G hmg ?aN ?lN ?cN ?kN ?aC ?lC ?cC ?kC ?aP ?lP ?cP ?kP ?aE ?lE ?cE ?kE ?aH ?lH ?cH ?kH ?aT ?lT ?cT ?kT ?aO ?lO ?cO ?kO ?aX ?lX ?cX ?kX ?aY ?lY ?cY ?kY ?aZ ?lZ ?cZ ?kZ ?aI ?lI ?cI ?kI ?aA ?lA ?cA ?kA ?aD ?lD ?cD ?kD ?aQ ?lQ ?cQ ?kQ ?aL ?lL ?cL ?kL ?z_len ?z_abs ?z_int ?z_range ?z_repr ?z_max ?z_min ?z_all ?z_ord ?z_isinstance ?z_str ?z_bool ?z_tuple ?z_list ?v_MOST_LETTERS ?v_MOST_CHARACTERS ?v_PERCENT ?rN ?tlN ?pvN ?rC ?tlC ?pvC ?nt ?np_
    (case aN => k_is)
    (case lN => k_is)
    (case cN => k_is)
    (case kN => k_is)
    (case aC => k_is)
    (case lC => k_is)
    (case cC => k_is)
    (case kC => k_is)
    (case aP => k_is)
    (case lP => k_is)
    (case cP => k_is)
    (case kP => k_is)
    (case aE => k_is)
    (case lE => k_is)
    (case cE => k_is)
    (case kE => k_is)
    (case aH => k_is)
    (case lH => k_is)
    (case cH => k_is)
    (case kH => k_is)
    (case aT => k_is)
    (case lT => k_is)
    (case cT => k_is)
    (case kT => k_is)
    (case aO => k_is)
    (case lO => k_is)
    (case cO => k_is)
    (case kO => k_is)
    (case aX => k_is)
    (case lX => k_is)
    (case cX => k_is)
    (case kX => k_is)
    (case aY => k_is)
    (case lY => k_is)
    (case cY => k_is)
    (case kY => k_is)
    (case aZ => k_is)
    (case lZ => k_is)
    (case cZ => k_is)
    (case kZ => k_is)
    (case aI => k_is)
    (case lI => k_is)
    (case cI => k_is)
    (case kI => k_is)
    (case aA => k_is)
    (case lA => k_is)
    (case cA => k_is)
    (case kA => k_is)
    (case aD => k_is)
    (case lD => k_is)
    (case cD => k_is)
    (case kD => k_is)
    (case aQ => k_is)
    (case lQ => k_is)
    (case cQ => k_is)
    (case kQ => k_is)
    (case aL => k_is)
    (case lL => k_is)
    (case cL => k_is)
    (case kL => k_is)
    (case z_len => k_is)
    (case z_abs => k_is)
    (case z_int => k_is)
    (case z_range => k_is)
    (case z_repr => k_is)
    (case z_max => k_is)
    (case z_min => k_is)
    (case z_all => k_is)
    (case z_ord => k_is)
    (case z_isinstance => k_is)
    (case z_str => k_is)
    (case z_bool => k_is)
    (case z_tuple => k_is)
    (case z_list => k_is)
    (case v_MOST_LETTERS => k_is)
    (case v_MOST_CHARACTERS => k_is)
    (case v_PERCENT => k_is)
    (case rN => rfl)
    (case tlN => k_is)
    (case pvN => rfl)
    (case rC => rfl)
    (case tlC => k_is)
    (case pvC => rfl)
    (case nt => kernel_rfl)
    (case np_ => decide +kernel)
