import PyProof.Rows.All
import Wide.All
import OpenK.AllK
import Wide.FinOn
import HandS.ForMost
import HandS.Style
import HandS.IsInst
import HandS.RaiseMore
import HandS.Wide
import HandS.WideBits
import HandS.TupLe
import HandS.TupAny
import HandS.Flow
import HandS.Replace
import KE.LtData
import KE.SortData
import HandS.Dict
import HandS.ExcInit
import HandS.HotCalls
import KE.KExcInit
import KE.KExcIs
import KE.KIsAll
import HandS.ForSpec
import HandS.Small
import HandS.DictComp
import PyProof.Rows.MatchSeqLen
import PyProof.NeKinds
import PyProof.P3Eq
import PyProof.NeData
import KE.KUnpack
import HandS.StrMore
import HandS.TupSets
import PyProof.StrLawsRepr
import HandS.Codes
import PyProof.Rows.StrCase
import PyProof.Rows.ReprOcc
import PySem.Challenge.RW_heldparts_k02_cells_contents_names_and_c
set_option Elab.async false
set_option linter.all false
set_option maxRecDepth 100000
set_option maxHeartbeats 16000000
/-! Promises of defs that are kept where no repr is under way, and what repr says of data. -/
namespace Lay
open PySem PySem.Spec PyProof.Rows L2

/-- no repr is under way -/
abbrev Quiet (A : Around) : Prop := A.guards = some []

structure FnG (P : Program) (w : World) (K : PySem.W.Frag)
    (mg : Str → Option Value) (base : Heap) (CX : CXT) (k : Nat)
    (f : Addr) (fd : FuncData) (ps : List Str) (sp : Sp) : Prop where
  len : ∀ zs G R Z, sp zs G R Z → zs.length = ps.length
  run : ∀ (A : Around) (out : List Env) (t : Shared) (G : Hp) (ar : Args) (ws : List Value) (zs : List V)
    (R : VK) (Z : XK), Room k A → Quiet A → Env0 P w K mg base A out t G →
    BindsTo t fd ar (ps.zip ws) → Vals zs ws → sp zs G R Z →
    codeAny (model P w) A (.call (.ref f) ar) (CR CX out P w G t R Z) t

section
variable {P : Program} {w : World} {K : PySem.W.Frag} {mg : Str → Option Value} {base : Heap}
variable {CX : CXT} {k : Nat} {f : Addr} {fd : FuncData} {ps : List Str} {sp : Sp}
theorem ofOk (F : FnOk P w K mg base CX k f fd ps sp) : FnG P w K mg base CX k f fd ps sp where
  len := F.len
  run := by
    intro A out t G ar ws zs R Z hr _ he hb hv hs
    exact F.run A out t G ar ws zs R Z hr he hb hv hs

theorem FnG.mono {j : Nat} (F : FnG P w K mg base CX j f fd ps sp) (h : j ≤ k) : FnG P w K mg base CX k f fd ps sp where
  len := F.len
  run := by
    intro A out t G ar ws zs R Z hr hq he hb hv hs
    exact F.run A out t G ar ws zs R Z (hr.mono h) hq he hb hv hs
end

section
variable {X : Cx} {CX : CXT} {k : Nat} {f : Addr} {fd : FuncData} {ps ks : List Str} {sp : Sp}
variable {dvs : List V} {ds : List Value} {E : XK} {x : Str} {p pos : Pos} {e : Expr} {es : List Expr} {t tk : TA} {kws : List Keyword}
variable {g : List Value → List Value → List Value} {gV : List V → List V → List V}

/-- what a call's result means for the body that called -/
theorem back {pins : List (Addr × Obj)} {σ : L2.St} {H : Hp} {s : Shared} {Q : VK}
    (hx : Passes CX X E) (I : Inv X pins σ H s) : ∀ (r : Result) (s' : Shared), CR CX X.stack X.prog X.w H s Q E r s' →
    (match r with
      | .ok (.ret u) => EP X pins σ Q u s'
      | .ok _ => False
      | .error b => X.xe b s')
  | .error b, s', hq => hx pins σ H s b s' I hq
  | .ok (.ret u), s', hq => I.after hq
  | .ok .next, _, hq => False.elim hq
  | .ok .brk, _, hq => False.elim hq
  | .ok .cont, _, hq => False.elim hq

theorem runG {pins : List (Addr × Obj)} {σ : L2.St} {H : Hp} {s : Shared} {Q : VK} {us : List Value} {vs : List V}
    (F : FnG X.prog X.w X.K X.mg X.base CX k f fd ps sp) (hr : Room k X.A) (hq : Quiet X.A)
    (hb : Binds X.K fd ps ds) (hd : Vals dvs ds) (hx : Passes CX X E)
    (I : Inv X pins σ H s) (r : Vals vs us) (h : sp (vs ++ dvs) H Q E) :
    wpAny (model X.prog X.w) X.A (call (.ref f) us) (EP X pins σ Q) X.xe s := by
  have r2 := Vals.append r hd
  have hl : (us ++ ds).length = ps.length := r2.length.symm.trans (F.len _ _ _ _ h)
  have main := F.run X.A X.stack s H ⟨us, []⟩ (us ++ ds) (vs ++ dvs) Q E hr hq (Inv.env0 I) (hb s us I.kIn hl) r2 h
  refine wpAny_call (codeAny_mono main ?_)
  intro r s' hh
  have z := back hx I r s' hh
  rcases r with b | fl
  · exact z
  · cases fl <;> exact z

theorem pe_callG (F : FnG X.prog X.w X.K X.mg X.base CX k f fd ps sp) (hr : Room k X.A) (hq : Quiet X.A)
    (hg : Gl X x) (hm : X.mg x = some (.ref f)) (hk : PySem.W.keepIn X.K (.ref f) = true)
    (hb : Binds X.K fd ps ds) (hd : Vals dvs ds) (hx : Passes CX X E) (ha : PA X (e :: es) t)
    (hdb : (x == ("__debug__" : Str)) = false := by decide)
    (he : starEach (e :: es) X.env = (false, eval e X.env) :: starEach es X.env := by rfl)
    (hpl : (backTo pos (starEach es X.env)).any (·.1) = false := by rfl) :
    PE X (.Call (.Name x p) (e :: es) [] pos) (tCall sp dvs E t) where
  run := by
    intro pins s σ H Q I h
    apply wpAny_Call_Name_kw
    refine ld_glob I hg hm ?_ hdb
    have args := ha.run pos pins s σ H _ I h
    refine PySem.W.callWith_K (h₀ := X.base) I.ok.mod.kin hk (thn args ?_) he hpl
    rintro us s1 ⟨vs, H1, I1, r, q⟩
    exact ⟨I1.kIn, runG F hr hq hb hd hx I1 r q⟩

theorem pe_callG0 (F : FnG X.prog X.w X.K X.mg X.base CX k f fd ps sp) (hr : Room k X.A) (hq : Quiet X.A)
    (hg : Gl X x) (hm : X.mg x = some (.ref f)) (hk : PySem.W.keepIn X.K (.ref f) = true)
    (hb : Binds X.K fd ps ds) (hd : Vals dvs ds) (hx : Passes CX X E)
    (hdb : (x == ("__debug__" : Str)) = false := by decide) : PE X (.Call (.Name x p) [] [] pos) (tCall sp dvs E tNil) where
  run := by
    intro pins s σ H Q I h
    apply wpAny_Call_Name_kw
    refine ld_glob I hg hm ?_ hdb
    exact PySem.W.callWith_K0 I.kIn hk (runG (us := []) F hr hq hb hd hx I .nil h)
end

section
variable {P : Program} {w : World} {K : PySem.W.Frag} {mg : Str → Option Value} {base : Heap}
/-- a def by its body, where no repr is under way -/
theorem okG {x qual : Str} {st : Stmt} {f : Addr} {fd : FuncData} {N ps : List Str} {k : Nat} {sp : Sp}
    (F : Fun K x qual st f fd) (S : FnScope N ps (defScope st))
    (len : ∀ zs G R Z, sp zs G R Z → zs.length = ps.length)
    (body : ∀ (cv : Value) (A : Around) (out : List Env) (t : Shared) (G : Hp) (zs : List V) (R : VK) (Z : XK),
      Room k (A.deeper (envOfC qual (defScope st) t.heap.objs.size f cv)) → Quiet A → sp zs G R Z →
      ∃ b, PSs (cxOf CX0 P w K mg base N qual (defScope st) f cv A out t G Z).nox (defBody st) b ∧
        b { nx := fun _ G' => R .non G', rt := R } (start N zs) G) :
    FnG P w K mg base CX0 (k + 1) f fd ps sp where
  len := len
  run := by
    obtain ⟨oc, od, kV, dc, pm, an, cv, ct, sl, rfl, lk, hcd⟩ := F.ex
    intro A out t G ar ws zs R Z hr hq e0 hb r hsp
    have old : ∀ b o, base.get? b = some o → t.heap.get? b = some o := fun b o q => (e0.bs b o q).1
    have KX : K.In t.heap := e0.mod.kin.keeps old
    have lim : t.heap.NoLimit := e0.mod.nolimit.keeps old
    obtain ⟨b, hP, hB⟩ := body cv A out t G zs R Z (hr.deeper _) hq hsp
    have kinds : ∀ y ∈ ps.zip ws, (defScope st).names.lookup y.1 = some .local ∨
        ((defScope st).names.lookup y.1 = some .cell ∧ ((cellsFrom (t.heap.objs.size + 1) (defScope st).names []).lookup y.1).isSome = true) := by
      rintro ⟨n, v⟩ hy
      have hn : n ∈ ps := (List.of_mem_zip hy).1
      exact (S.par n hn).imp id fun q => ⟨q, PySem.W.cellsFrom_some _ _ _ (.inl q)⟩
    refine codeAny_call_function hr.depth (KX _ _ lk) rfl S.co S.gen rfl (PySem.W.codeRec_of KX hcd) (hb _ _ _ _ ?_)
    refine wpAny_newFunctionEnv_cells S.kind kinds ?_
    rintro env rfl s1 x
    refine ⟨lim.keeps x.toInCall.keep, codeAny_func ?_⟩
    have I0 := inv_start (CX := CX0) (E := Z) S hr.hd e0 (len _ _ _ _ hsp) r x
    refine wpAny_mono (hP.nox.run [] s1 (start N zs) G _ I0 hB) ?_ fun _ _ hz => hz
    intro fl s' hs
    cases fl with
    | ret u =>
      obtain ⟨v, _, G', J, rv, q⟩ := hs
      exact ⟨v, G', J.os, J.bare, J.base, J.hok, rv, q⟩
    | next =>
      obtain ⟨_, G', J, q⟩ := hs
      exact ⟨V.non, G', J.os, J.bare, J.base, J.hok, rfl, q⟩
    | brk => exact (hs.choose_spec.choose_spec.2 : False).elim
    | cont => exact (hs.choose_spec.choose_spec.2 : False).elim
end

/-! ### repr of data -/
section
variable {X : Cx}
/-- the text of data -/
def rRepr (K : PySem.W.Frag) : List V → Hp → VK → Prop := fun xs H Q =>
  ∃ v d, xs = [v] ∧ Dp K H v d ∧ d.showable = true ∧ d.depth ≤ 60 ∧ d.shown.length ≤ sizeLine ∧ Q (.str d.shown) H
theorem noDict : ∀ (d : PyData) {K : PySem.W.Frag} {H : Hp} {v : V}, Dp K H v d → d.hasDict = false := by
  have all : ∀ n, (∀ d : PyData, sizeOf d < n → ∀ {K : PySem.W.Frag} {H : Hp} {v : V}, Dp K H v d → d.hasDict = false) := by
    intro n
    induction n with
    | zero => intro d h; omega
    | succ n ih =>
      have lst : ∀ (ds : List PyData) {K : PySem.W.Frag} {H : Hp} {vs : List V}, (∀ d ∈ ds, sizeOf d < n) → DpAll K H vs ds → PyData.hasDictAll ds = false := by
        intro ds
        induction ds with
        | nil => intros; simp [PyData.hasDictAll]
        | cons d r ihr =>
          intro K H vs hs h
          cases h with
          | cons h1 h2 =>
            have a := ih d (hs d (List.mem_cons_self ..)) h1
            have b := ihr (fun d' hd' => hs d' (List.mem_cons_of_mem _ hd')) h2
            simp [PyData.hasDictAll, a, b]
      intro d hd K H v h
      cases h with
      | non => simp [PyData.hasDict]
      | bl b => simp [PyData.hasDict]
      | int i => simp [PyData.hasDict]
      | str x => simp [PyData.hasDict]
      | lst hs ha =>
        rename_i ds
        have := lst ds (fun d' hm => by have := List.sizeOf_lt_of_mem hm; simp at hd; omega) ha
        simp [PyData.hasDict, this]
      | tup hs ha =>
        rename_i ds
        have := lst ds (fun d' hm => by have := List.sizeOf_lt_of_mem hm; simp at hd; omega) ha
        simp [PyData.hasDict, this]
  intro d K H v h
  exact all (sizeOf d + 1) d (by omega) h

theorem call_repr_D (hu : X.A.units + 64 < cLine) (hq : Quiet X.A) : CallR X (.builtin "repr") (rRepr X.K) := by
  intro pins s σ H xs us Q I r h
  obtain ⟨v, d, rfl, hd, hs, hdep, hsz, q⟩ := h
  obtain ⟨u, rfl, ru⟩ := vals1 r
  obtain ⟨as, rd⟩ := Dp.reads I d v u hd ru
  have nd := noDict d hd
  cases hd with
  | non =>
    cases ru
    rw [PyData.shown_none] at q
    exact PySem.P.repr_of_none ⟨.str _, H, I.tok _, ⟨_, rfl⟩, q⟩
  | bl b =>
    cases ru
    rw [PyData.shown_bool] at q
    exact PySem.P.repr_of_bool ⟨.str _, H, I.tok _, ⟨_, rfl⟩, q⟩
  | int i =>
    obtain ⟨t, rfl⟩ := ru
    rw [PyData.shown_int] at q
    have hs : i.natAbs.log2 < 1920 := by simpa [PyData.showable] using hs
    exact PySem.P.repr_of_int hs ⟨.str _, H, I.tok _, ⟨_, rfl⟩, q⟩
  | str x =>
    obtain ⟨t, rfl⟩ := ru
    rw [PyData.shown_str] at q hsz
    exact PySem.P.repr_of_str ⟨.str _, H, I.tok _, ⟨_, rfl⟩, q⟩ hsz
  | lst hs' ha =>
    cases ru
    refine repr_of_reads' rd hs (fun z => by rw [nd] at z; cases z) hq (by omega) (fun _ _ z => z) ?_ hsz
    intro h' u tk keep
    exact ⟨.str _, H, I.kept keep, ⟨u, rfl⟩, q⟩
  | tup hs' ha =>
    cases ru
    refine repr_of_reads' rd hs (fun z => by rw [nd] at z; cases z) hq (by omega) (fun _ _ z => z) ?_ hsz
    intro h' u tk keep
    exact ⟨.str _, H, I.kept keep, ⟨u, rfl⟩, q⟩
end

/-! ### a < b of data -/
section
variable {X : Cx}
def rLtD (K : PySem.W.Frag) : R2 := fun x y H Q => ∃ d e, Dp K H x d ∧ Dp K H y e ∧
  PySem.W.alike d e = true ∧ d ≠ .none ∧ min d.depth e.depth ≤ 60 ∧ Q (.bl (PySem.W.dataLt d e)) H
theorem op_ltD (hu : X.A.units + 64 < cLine) : OpR X (compareOp .Lt) (rLtD X.K) := by
  intro pins s σ H x y v u Q I rx ry h
  obtain ⟨d, e, hd, he, al, nn, hm, q⟩ := h
  obtain ⟨as, r1⟩ := Dp.reads I d x v hd rx
  obtain ⟨bs, r2⟩ := Dp.reads I e y u he ry
  have hroom : X.A.units + min d.depth e.depth < cLine := by omega
  exact PySem.W.rcLt_alike d e X.A s v u as bs r1 r2 al nn hroom _ _ _ _ ⟨.bl _, H, I, rfl, q⟩
end

/-! ### the law's own call: nothing of repr stands around it -/
section
variable {P : Program} {w : World} {K : PySem.W.Frag} {mg : Str → Option Value} {k : Nat} {fa : Addr} {fd : FuncData} {x : Str} {sp : Sp}
/-- what the entry sees of the heap: at most the script at `a` is tracked -/
structure Ent (H : Hp) (a : Addr) (t : Shared) (vs : List Value) : Prop where
  ok : HOk P w H t.heap
  at' : ∀ b, H b ≠ none → b = a ∧ ∃ o u, H b = some (.frz o u)
  obj : t.heap.get? a = some { cls := .type "list", data := .seq vs.toArray }

theorem Ent.off {H : Hp} {a : Addr} {t : Shared} {vs : List Value} (E : Ent (P := P) (w := w) H a t vs) {b : Addr} {o : Obj}
    {es : Array DictEntry} {n : Nat} (h : t.heap.get? b = some o) (hd : o.data = .dict es n) : H b = none := by
  rcases Classical.em (H b = none) with z | z
  · exact z
  · have e := (E.at' b z).1
    subst e
    have same := h.symm.trans E.obj
    injection same with same
    rw [same] at hd
    exact nomatch hd

theorem Ent.run {H : Hp} {a : Addr} {t : Shared} {vs : List Value} {mb : Str → Option Value}
    (E : Ent (P := P) (w := w) H a t vs) (KX : K.In t.heap) (hns : t.heap.Ns mainGlobals mg) (hb : t.heap.Ns builtinsNs mb)
    (hbb : ∀ y : Str, y ≠ "__name__" → mb y = bootBuiltins y) (lim : t.heap.NoLimit) (hg : t.gens = #[])
    (hK : H a ≠ none → K.lookup a = none) (hr : Room k callerA)
    (F : ∀ base : Heap, K.In base → base.Ns mainGlobals mg → FnG P w K mg base CX0 k fa fd [x] sp)
    (hbind : ∀ (s : Shared) (u : Value), BindsTo s fd ⟨[u], []⟩ [(x, u)])
    (hsp : sp [.ref a] H (fun v _ => v = .bl true) fun _ _ _ => False) :
    codeAny (model P w) callerA (.call (.ref fa) ⟨[.ref a], []⟩)
      (fun r s' => r = .ok (.ret (.bool true)) ∧ OldK t.heap s'.heap ∧ s'.os = t.os ∧ AllBare s'.gens) t := by
  have take : ∀ {b : Addr} {m : Str → Option Value}, t.heap.Ns b m → (hidT t.heap H).Ns b m := by
    rintro b m ⟨o, es, n, h1, h2, h3⟩
    exact ⟨o, es, n, hidT_get h1 (E.off h1 h2), h2, h3⟩
  have Kb : K.In (hidT t.heap H) := by
    intro b o hbo
    refine hidT_get (KX b o hbo) ?_
    rcases Classical.em (H b = none) with z | z
    · exact z
    · have e := (E.at' b z).1
      subst e
      rw [hK z] at hbo
      cases hbo
  obtain ⟨mc, c1, c2⟩ := lim
  have M : Mod K mg (hidT t.heap H) := { kin := Kb, glob := take hns, blt := ⟨mb, take hb, hbb⟩, nolimit := ⟨mc, take c1, c2⟩ }
  have e0 : Env0 P w K mg (hidT t.heap H) callerA [] t H := by
    refine ⟨rfl, M, fun b o z => of_hidT z, Nat.le_of_eq (hidT_size _ _), trivial, ?_, E.ok, .of_eq hg⟩
    intro b hb
    cases hb
  have main := (F _ Kb (take hns)).run callerA [] t H ⟨[.ref a], []⟩ [.ref a] [.ref a] _ _ hr rfl e0 (hbind t _) (.cons rfl .nil) hsp
  refine codeAny_mono main ?_
  intro r s' h
  rcases r with b | fl
  · exact False.elim h
  · cases fl with
    | next => exact False.elim h
    | brk => exact False.elim h
    | cont => exact False.elim h
    | ret u =>
      obtain ⟨v, H', hos, hbare, hun, hok', rv, hv⟩ := h
      have hv' : v = .bl true := hv
      subst hv'
      have hu : u = Value.bool true := rv
      subst hu
      refine ⟨rfl, OldK.of_keep ?_, hos, hbare⟩
      intro b o hbo
      rcases Classical.em (H b = none) with z | z
      · exact hun.keep b o hbo z (fun y => nomatch y) (fun y => nomatch y)
      · obtain ⟨_, ob, xs, hz⟩ := E.at' b z
        have one := (E.ok b _ hz).1
        have two := (hok' b _ (hun.frzs b ob _ hz)).1
        rw [hbo] at one
        injection one with one
        rw [one]
        exact two

theorem callG {a : Addr} {t : Shared} {vs : List Value} {ns : List Int} {mb : Str → Option Value}
    (KX : K.In t.heap) (hns : t.heap.Ns mainGlobals mg) (hb : t.heap.Ns builtinsNs mb)
    (hbb : ∀ y : Str, y ≠ "__name__" → mb y = bootBuiltins y) (lim : t.heap.NoLimit) (hg : t.gens = #[])
    (ha : t.heap.get? a = some { cls := .type "list", data := .seq vs.toArray }) (hi : IntsAre vs ns) (hl : ns.length ≤ sizeLine)
    (hr : Room k callerA)
    (F : ∀ base : Heap, K.In base → base.Ns mainGlobals mg → FnG P w K mg base CX0 k fa fd [x] sp)
    (hbind : ∀ (s : Shared) (u : Value), BindsTo s fd ⟨[u], []⟩ [(x, u)])
    (hsp : ∀ H : Hp, Only H → SqL K H a (ns.map V.int) → sp [.ref a] H (fun v _ => v = .bl true) fun _ _ _ => False) :
    codeAny (model P w) callerA (.call (.ref fa) ⟨[.ref a], []⟩)
      (fun r s' => r = .ok (.ret (.bool true)) ∧ OldK t.heap s'.heap ∧ s'.os = t.os ∧ AllBare s'.gens) t := by
  have rv := vals_ints hi
  have hlv : vs.length = ns.length := by simpa using rv.length.symm
  rcases Classical.em (K.lookup a = none) with hk | hk
  · let H : Hp := fun b => if b = a then some (.frz { cls := .type "list", data := .seq vs.toArray } (.lst (ns.map V.int))) else none
    have ya : H a = some (.frz { cls := .type "list", data := .seq vs.toArray } (.lst (ns.map V.int))) := if_pos rfl
    have no : ∀ b, b ≠ a → H b = none := fun b z => if_neg z
    refine Ent.run (H := H) (vs := vs) ⟨?_, ?_, ha⟩ KX hns hb hbb lim hg (fun _ => hk) hr F hbind (hsp H ?_ (.inl (.inr ⟨_, ya⟩)))
    · intro b o z
      rcases Classical.em (b = a) with e | e
      · subst e
        rw [ya] at z
        injection z with z
        subst z
        exact ⟨ha, by rw [List.length_map]; exact hl, vs, 0, rv, ha⟩
      · rw [no b e] at z
        cases z
    · intro b z
      rcases Classical.em (b = a) with e | e
      · subst e
        exact ⟨rfl, _, _, ya⟩
      · exact absurd (no b e) z
    · intro b
      rcases Classical.em (b = a) with e | e
      · subst e
        exact .inr ⟨_, _, ya⟩
      · exact .inl (no b e)
  · obtain ⟨o, ho⟩ := Option.ne_none_iff_exists'.mp hk
    have same := (KX a o ho).symm.trans ha
    injection same with same
    subst same
    refine Ent.run (H := fun _ => none) (vs := vs) ⟨fun b o z => (nomatch z), fun b z => absurd rfl z, ha⟩ KX hns hb hbb lim hg (fun z => absurd rfl z) hr F hbind
      (hsp _ (fun _ => .inl rfl) (.inr ⟨_, vs.toArray, _, ho, rfl, rfl, rfl, ?_, by simpa using rv⟩))
    rw [List.size_toArray, hlv]
    exact hl

theorem walkG {l : PySem.W.OpenLaw} {n : Nat} {q : Program} {loose : List Str} {XP : (Str → Option Value) → Heap → Prop}
    {YP : World → Heap → Prop} {d : DefRec} {KK : Params → PySem.W.Frag} {spl : PySem.W.Frag → Sp}
    (hn : l.most = some n) (hn2 : n ≤ sizeLine) (hdf : d.params.defaults = []) (hr : Room k callerA)
    (hY : ∀ (w : World) (h : Heap), YP w h → (KK w.params).In h)
    (F : ∀ (w : World) (mg : Str → Option Value) (fa : Addr) (h : Heap), (KK w.params).In h → h.Ns mainGlobals mg → mg d.name = some (.ref fa) →
      ∃ fd : FuncData, (∀ (s : Shared) (u : Value), BindsTo s fd ⟨[u], []⟩ [(x, u)]) ∧
        ∀ base : Heap, (KK w.params).In base → base.Ns mainGlobals mg → FnG l.prog w (KK w.params) mg base CX0 k fa fd [x] (spl (KK w.params)))
    (hsp : ∀ (K : PySem.W.Frag) (H : Hp) (a : Addr) (ns : List Int), ns.length ≤ n → Only H → SqL K H a (ns.map V.int) →
      spl K [.ref a] H (fun v _ => v = .bl true) fun _ _ _ => False) :
    PySem.W.WalkO q loose XP YP l.row.toRowW d [] (fun f vs => PySem.call f vs) := by
  refine Att.attach_call hn hdf ?_
  intro w s₀ s₁ mg mb fa o pm cd doc a vs ns G Y ho hd hcd hmg hobj hints hlen hg
  have KX := hY w _ Y
  obtain ⟨fd, hbind, hF⟩ := F w mg fa _ KX G.T.g hmg
  exact callG KX G.T.g G.T.b G.T.builtins G.T.nolimit hg hobj hints (Nat.le_trans hlen hn2) hr hF hbind (fun H h1 h2 => hsp _ H a ns hlen h1 h2)
end
end Lay
namespace Lay
open PySem PySem.Spec PyProof.Rows L2
/-- a def of the text stands under its name and keeps a promise -/
def Has (P : Program) (w : World) (K : PySem.W.Frag) (mg : Str → Option Value) (base : Heap)
    (k : Nat) (x : Str) (ps : List Str) (sp : Sp) : Prop :=
  ∃ f fd, FnG P w K mg base CX0 k f fd ps sp ∧ mg x = some (.ref f) ∧
    PySem.W.keepIn K (.ref f) = true ∧ L2.Binds K fd ps [] ∧
    (∀ ks : List Str, ks.Perm ps → ∀ (s : Shared) (ws : List Value), ws.length = ks.length →
      ks = ps → BindsTo s fd ⟨[], ks.zip ws⟩ (ps.zip ws))
section
variable {X : Cx} {k : Nat} {ps : List Str} {sp : Sp} {x : Str} {p pos : Pos} {e : Expr} {es : List Expr} {t : TA}
theorem pe_c (D : Has X.prog X.w X.K X.mg X.base k x ps sp) (hr : Room k X.A) (hq : Quiet X.A) (ha : PA X (e :: es) t)
    (hg : Gl X x := by rfl)
    (hdb : (x == ("__debug__" : Str)) = false := by decide)
    (he : starEach (e :: es) X.env = (false, eval e X.env) :: starEach es X.env := by rfl)
    (hpl : (backTo pos (starEach es X.env)).any (·.1) = false := by rfl) :
    PE X (.Call (.Name x p) (e :: es) [] pos) (tCall sp [] E0 t) := by
  obtain ⟨f, fd, F, gm, kp, b, _⟩ := D
  exact pe_callG F hr hq hg gm kp b .nil pass0 ha hdb he hpl
theorem pe_c0 (D : Has X.prog X.w X.K X.mg X.base k x ps sp) (hr : Room k X.A) (hq : Quiet X.A)
    (hg : Gl X x := by rfl)
    (hdb : (x == ("__debug__" : Str)) = false := by decide) :
    PE X (.Call (.Name x p) [] [] pos) (tCall sp [] E0 tNil) := by
  obtain ⟨f, fd, F, gm, kp, b, _⟩ := D
  exact pe_callG0 F hr hq hg gm kp b .nil pass0 hdb
/-- f(a = .., b = ..): every parameter by its name, in the def's order -/
theorem pe_ck {kws : List Keyword} {tk : TA} (D : Has X.prog X.w X.K X.mg X.base k x ps sp) (hr : Room k X.A) (hq : Quiet X.A) (hkw : PK X kws tk)
    (hks : (backToKw pos (keywordEach kws X.env)).filterMap (·.1) = ps := by rfl)
    (hg : Gl X x := by rfl)
    (hall : (backToKw pos (keywordEach kws X.env)).all (·.1.isSome) = true := by rfl)
    (hdb : (x == ("__debug__" : Str)) = false := by decide)
    (hpl : ((backTo pos (starEach [] X.env)).any (·.1) || (backToKw pos (keywordEach kws X.env)).any (·.1.isNone)) = false := by rfl) :
    PE X (.Call (.Name x p) [] kws pos) (tCall sp [] E0 tk) where
  run := by
    obtain ⟨f, fd, F, gm, kp, _, b⟩ := D
    intro pins s σ H Q I h
    apply wpAny_Call_Name_kw
    refine ld_glob I hg gm ?_ hdb
    refine PySem.W.callWith_KW0 (h₀ := X.base) I.ok.mod.kin kp hall (thn (hkw.run pos pins s σ H _ I h) ?_) hpl
    rintro ws s2 ⟨vs, H2, I2, r, q⟩
    refine ⟨I2.kIn, ?_⟩
    rw [List.append_nil] at q
    have hl : ws.length = ps.length := r.length.symm.trans (F.len _ _ _ _ q)
    rw [hks]
    have main := F.run X.A X.stack s2 H2 ⟨[], ps.zip ws⟩ ws vs Q E0 hr hq (Inv.env0 I2) (b ps (List.Perm.refl _) s2 ws hl rfl) r q
    refine wpAny_call (codeAny_mono main ?_)
    intro r s' hh
    have z := back pass0 I2 r s' hh
    rcases r with b | fl
    · exact z
    · cases fl <;> exact z
end
section
variable {P : Program} {w : World} {K : PySem.W.Frag} {mg : Str → Option Value} {base : Heap}
theorem has {k : Nat} {x : Str} {qual : Str} {st : Stmt} {f : Addr} {fd : FuncData} {ps : List Str} {sp : Sp}
    (F : Fun K x qual st f fd) (gm : mg x = some (.ref f)) (O : FnG P w K mg base CX0 k f fd ps sp)
    (h : ∀ (kV doc pm : Value) (an : Option Addr) (cdv ct : Value) (us : List Value), us.length = ps.length →
      bindArgs (PySem.W.fnOf x qual (defArgs st) (defBody st) (defScope st) .none kV doc pm an cdv ct) ⟨us, []⟩ = pure (ps.zip us))
    (h2 : ∀ (kV doc pm : Value) (an : Option Addr) (cdv ct : Value) (us : List Value), us.length = ps.length →
      bindArgs (PySem.W.fnOf x qual (defArgs st) (defBody st) (defScope st) .none kV doc pm an cdv ct) ⟨[], ps.zip us⟩ = pure (ps.zip us)) :
    Has P w K mg base k x ps sp := by
  refine ⟨f, fd, O, gm, F.kp, F.binds h, ?_⟩
  obtain ⟨oc, od, kV, dc, pm, an, cv, ct, sl, rfl, lk, hcd⟩ := F.ex
  rintro ks _ s ws hl rfl
  exact .of_eq (h2 kV dc pm an cv ct ws hl)
end
section
variable {X : Cx} {x : Str} {pos : Pos}
/-- a constant of the module: a text, a number, an object -/
theorem pe_gS {z : Str} {t : Tok} (hm : X.mg x = some (.str z t)) (hg : Gl X x := by rfl) (hd : (x == ("__debug__" : Str)) = false := by decide) : PE X (.Name x pos) (tC (.str z)) := pe_glob hg hm ⟨t, rfl⟩ hd
theorem pe_gI {z : Int} {t : Tok} (hm : X.mg x = some (.int z t)) (hg : Gl X x := by rfl) (hd : (x == ("__debug__" : Str)) = false := by decide) : PE X (.Name x pos) (tC (.int z)) := pe_glob hg hm ⟨t, rfl⟩ hd
theorem pe_gR {a : Addr} (hm : X.mg x = some (.ref a)) (hg : Gl X x := by rfl) (hd : (x == ("__debug__" : Str)) = false := by decide) : PE X (.Name x pos) (tC (.ref a)) := pe_glob hg hm rfl hd
end
end Lay
namespace Lay
open PySem PySem.Spec PyProof.Rows L2
abbrev St := L2.St
/-! ### loops by invariants -/
section
variable {K : PySem.W.Frag} {J : It} {g : TG} {tb : TS} {tt : TT} {te : TE} {vs : List Nat} {D : Ends} {σ : L2.St} {H : Hp} {wi : TI} {c : TT} {Q : VK}
def Loop (J : It) (g : TG) (tb : TS) (D : Ends) (σ : L2.St) (H : Hp) : Prop := tFor (fun _ G R => R J G) g tb D σ H
theorem tFor_eq : tFor wi g tb D σ H = wi σ H fun J G => Loop J g tb D σ G := rfl
def WLoop (c : TT) (tb : TS) (D : Ends) (σ : L2.St) (H : Hp) : Prop := tWhile c tb D σ H
theorem tWhile_eq : tWhile c tb D σ H = WLoop c tb D σ H := rfl
/-- a comprehension's turns, its new list at L -/
def CLoop (J : It) (g : TG) (tt : TT) (te : TE) (vs : List Nat) (σ : L2.St) (L : Addr) (Q : VK) (H : Hp) : Prop :=
  ∃ W : Nat → Nat → Hp → Prop, (∃ m, W 0 m H) ∧ ∀ i m G, W i m G →
    (J.stop i G ∧ Q (.ref L) G) ∨ (J.go i G ∧ ∃ N : Hp → Prop, (∀ G', N G' → ∃ m', m' < m ∧ W (i + 1) m' G') ∧
      ∀ x G', J.yld i G x G' → g x (wipe σ vs) G' fun σ2 H2 => wipe σ2 vs = wipe σ vs ∧ tt σ2 H2 fun b H3 =>
        if b = true then te σ2 H3 fun y H4 => ∃ acc, H4 L = some (.lst acc) ∧ acc.length < sizeLine ∧ N (upd H4 L (.lst (acc ++ [y]))) else N H3)
theorem tLc_eq : tLc wi g tt te vs σ H Q = wi σ H fun J G => ∀ L, G L = none → CLoop J g tt te vs σ L Q (upd G L (.lst [])) := rfl

theorem Loop.by (n : Nat) (I : Nat → L2.St → Hp → Prop) (h0 : I 0 σ H)
    (hs : ∀ i τ G, i < n → I i τ G → J.go i G ∧ ∀ x G', J.yld i G x G' →
      g x τ G' fun τ2 G2 => tb { D with nx := I (i + 1), ct := I (i + 1), bk := D.nx } τ2 G2)
    (hd : ∀ τ G, I n τ G → J.stop n G ∧ D.nx τ G) : Loop J g tb D σ H := by
  refine ⟨fun i m τ G => m + i = n ∧ I i τ G, ⟨n, rfl, h0⟩, ?_⟩
  rintro i m τ G ⟨hm, hi⟩
  by_cases hlt : i < n
  · obtain ⟨a, b⟩ := hs i τ G hlt hi
    exact .inr ⟨a, I (i + 1), fun _ _ h => ⟨m - 1, by omega, by omega, h⟩, b⟩
  · have e : i = n := by omega
    subst e
    exact .inl (hd τ G hi)
theorem Loop.list {a : Addr} (xs : List V) (I : Nat → L2.St → Hp → Prop) (h0 : I 0 σ H) (hl : ∀ i τ G, I i τ G → SqL K G a xs)
    (hs : ∀ i x τ G, xs[i]? = some x → I i τ G → g x τ G fun τ2 G2 => tb { D with nx := I (i + 1), ct := I (i + 1), bk := D.nx } τ2 G2)
    (hd : ∀ τ G, I xs.length τ G → D.nx τ G) : Loop (Itl K a) g tb D σ H := by
  refine Loop.by xs.length I h0 ?_ fun τ G h => ⟨⟨xs, hl _ _ _ h, Nat.le_refl _⟩, hd τ G h⟩
  intro i τ G hi h
  have q := hl i τ G h
  have hx : xs[i]? = some xs[i] := List.getElem?_eq_getElem hi
  refine ⟨⟨xs, xs[i], q, hx⟩, ?_⟩
  rintro x G' ⟨rfl, hx'⟩
  exact hs i x τ _ (hx' xs q) h
theorem Loop.tup {a : Addr} (xs : List V) (I : Nat → L2.St → Hp → Prop) (h0 : I 0 σ H) (hl : ∀ i τ G, I i τ G → SqT K G a xs)
    (hs : ∀ i x τ G, xs[i]? = some x → I i τ G → g x τ G fun τ2 G2 => tb { D with nx := I (i + 1), ct := I (i + 1), bk := D.nx } τ2 G2)
    (hd : ∀ τ G, I xs.length τ G → D.nx τ G) : Loop (Itt K a) g tb D σ H := by
  refine Loop.by xs.length I h0 ?_ fun τ G h => ⟨⟨xs, hl _ _ _ h, Nat.le_refl _⟩, hd τ G h⟩
  intro i τ G hi h
  have q := hl i τ G h
  have hx : xs[i]? = some xs[i] := List.getElem?_eq_getElem hi
  refine ⟨⟨xs, xs[i], q, hx⟩, ?_⟩
  rintro x G' ⟨rfl, hx'⟩
  exact hs i x τ _ (hx' xs q) h
theorem Loop.range {lo : Int} {n : Nat} (I : Nat → L2.St → Hp → Prop) (h0 : I 0 σ H)
    (hs : ∀ i τ G, i < n → I i τ G → g (.int (lo + i)) τ G fun τ2 G2 => tb { D with nx := I (i + 1), ct := I (i + 1), bk := D.nx } τ2 G2)
    (hd : ∀ τ G, I n τ G → D.nx τ G) : Loop (Itr lo n) g tb D σ H := by
  refine Loop.by n I h0 ?_ fun τ G h => ⟨Nat.le_refl _, hd τ G h⟩
  intro i τ G hi h
  refine ⟨hi, ?_⟩
  rintro x G' ⟨rfl, rfl⟩
  exact hs i τ _ hi h
theorem Loop.str {x : Str} (I : Nat → L2.St → Hp → Prop) (h0 : I 0 σ H)
    (hs : ∀ i k τ G, x.cps.toList[i]? = some k → I i τ G → g (.str ⟨#[k]⟩) τ G fun τ2 G2 => tb { D with nx := I (i + 1), ct := I (i + 1), bk := D.nx } τ2 G2)
    (hd : ∀ τ G, I x.cps.toList.length τ G → D.nx τ G) : Loop (Its x) g tb D σ H := by
  have size : x.cps.size = x.cps.toList.length := by simp
  refine Loop.by x.cps.toList.length I h0 ?_ fun τ G h => ⟨by show x.cps.size ≤ _; omega, hd τ G h⟩
  intro i τ G hi h
  refine ⟨by show i < x.cps.size; omega, ?_⟩
  rintro v G' ⟨rfl, k, hk, rfl⟩
  exact hs i k τ _ (by rw [Array.getElem?_toList]; exact hk) h
/-- for x, y in zip(xs, ys): each pair is a new tuple -/
theorem Loop.zip {a b : Addr} (xs ys : List V) (n : Nat) (hn : n = min xs.length ys.length) (I : Nat → L2.St → Hp → Prop) (h0 : I 0 σ H)
    (hl : ∀ i τ G, I i τ G → SqL K G a xs ∧ SqL K G b ys)
    (hs : ∀ i x y T τ G, xs[i]? = some x → ys[i]? = some y → I i τ G → G T = none → g (.ref T) τ (upd G T (.tup [x, y])) fun τ2 G2 => tb { D with nx := I (i + 1), ct := I (i + 1), bk := D.nx } τ2 G2)
    (hd : ∀ τ G, I n τ G → D.nx τ G) : Loop (Itz K a b) g tb D σ H := by
  refine Loop.by n I h0 ?_ fun τ G h => ⟨⟨xs, ys, (hl _ _ _ h).1, (hl _ _ _ h).2, by omega⟩, hd τ G h⟩
  intro i τ G hi h
  obtain ⟨q1, q2⟩ := hl i τ G h
  have hx : xs[i]? = some (xs[i]'(by omega)) := List.getElem?_eq_getElem _
  have hy : ys[i]? = some (ys[i]'(by omega)) := List.getElem?_eq_getElem _
  refine ⟨⟨xs, ys, _, _, q1, q2, hx, hy⟩, ?_⟩
  rintro v G' ⟨T, x, y, rfl, hT, rfl, hx', hy'⟩
  exact hs i x y T τ G (hx' _ q1) (hy' _ q2) h hT
/-- a while: N is `fun τ' G' => ∃ m', m' < m ∧ I m' τ' G'` as a rule -/
theorem WLoop.by (I : Nat → L2.St → Hp → Prop) (m : Nat) (h0 : I m σ H)
    (hs : ∀ m τ G, I m τ G → c τ G fun b G1 => if b = true then ∃ N : L2.St → Hp → Prop, (∀ τ' G', N τ' G' → ∃ m', m' < m ∧ I m' τ' G') ∧
      tb { D with nx := N, ct := N, bk := D.nx } τ G1 else D.nx τ G1) : WLoop c tb D σ H := ⟨I, ⟨m, h0⟩, hs⟩
theorem CLoop.by {L : Addr} (n : Nat) (I : Nat → List V → Hp → Prop) (h0 : I 0 [] H) (hL : H L = some (.lst []))
    (hs : ∀ i acc G, i < n → I i acc G → G L = some (.lst acc) → J.go i G ∧ ∀ N : Hp → Prop, (∀ a G', I (i + 1) a G' → G' L = some (.lst a) → N G') →
      ∀ x G', J.yld i G x G' → g x (wipe σ vs) G' fun σ2 H2 => wipe σ2 vs = wipe σ vs ∧ tt σ2 H2 fun b H3 =>
        if b = true then te σ2 H3 fun y H4 => ∃ a, H4 L = some (.lst a) ∧ a.length < sizeLine ∧ N (upd H4 L (.lst (a ++ [y]))) else N H3)
    (hd : ∀ acc G, I n acc G → G L = some (.lst acc) → J.stop n G ∧ Q (.ref L) G) : CLoop J g tt te vs σ L Q H := by
  refine ⟨fun i m G => m + i = n ∧ ∃ acc, I i acc G ∧ G L = some (.lst acc), ⟨n, rfl, [], h0, hL⟩, ?_⟩
  rintro i m G ⟨hm, acc, hi, hG⟩
  by_cases hlt : i < n
  · obtain ⟨a, b⟩ := hs i acc G hlt hi hG
    exact .inr ⟨a, fun G' => ∃ acc, I (i + 1) acc G' ∧ G' L = some (.lst acc), fun _ h => ⟨m - 1, by omega, by omega, h⟩,
      b _ fun a G' h1 h2 => ⟨a, h1, h2⟩⟩
  · have e : i = n := by omega
    subst e
    exact .inl (hd acc G hi hG)
theorem CLoop.list {L a : Addr} (xs : List V) (I : Nat → List V → Hp → Prop) (h0 : I 0 [] H) (hL : H L = some (.lst []))
    (hl : ∀ i acc G, I i acc G → G L = some (.lst acc) → SqL K G a xs)
    (hs : ∀ i x acc G, xs[i]? = some x → I i acc G → G L = some (.lst acc) → ∀ N : Hp → Prop, (∀ a G', I (i + 1) a G' → G' L = some (.lst a) → N G') →
      g x (wipe σ vs) G fun σ2 H2 => wipe σ2 vs = wipe σ vs ∧ tt σ2 H2 fun b H3 =>
        if b = true then te σ2 H3 fun y H4 => ∃ a, H4 L = some (.lst a) ∧ a.length < sizeLine ∧ N (upd H4 L (.lst (a ++ [y]))) else N H3)
    (hd : ∀ acc G, I xs.length acc G → G L = some (.lst acc) → Q (.ref L) G) : CLoop (Itl K a) g tt te vs σ L Q H := by
  refine CLoop.by xs.length I h0 hL ?_ fun acc G h1 h2 => ⟨⟨xs, hl _ _ _ h1 h2, Nat.le_refl _⟩, hd acc G h1 h2⟩
  intro i acc G hi h1 h2
  have q := hl i acc G h1 h2
  have hx : xs[i]? = some xs[i] := List.getElem?_eq_getElem hi
  refine ⟨⟨xs, xs[i], q, hx⟩, ?_⟩
  rintro N hN x G' ⟨rfl, hx'⟩
  exact hs i x acc _ (hx' xs q) h1 h2 N hN
theorem CLoop.tup {L a : Addr} (xs : List V) (I : Nat → List V → Hp → Prop) (h0 : I 0 [] H) (hL : H L = some (.lst []))
    (hl : ∀ i acc G, I i acc G → G L = some (.lst acc) → SqT K G a xs)
    (hs : ∀ i x acc G, xs[i]? = some x → I i acc G → G L = some (.lst acc) → ∀ N : Hp → Prop, (∀ a G', I (i + 1) a G' → G' L = some (.lst a) → N G') →
      g x (wipe σ vs) G fun σ2 H2 => wipe σ2 vs = wipe σ vs ∧ tt σ2 H2 fun b H3 =>
        if b = true then te σ2 H3 fun y H4 => ∃ a, H4 L = some (.lst a) ∧ a.length < sizeLine ∧ N (upd H4 L (.lst (a ++ [y]))) else N H3)
    (hd : ∀ acc G, I xs.length acc G → G L = some (.lst acc) → Q (.ref L) G) : CLoop (Itt K a) g tt te vs σ L Q H := by
  refine CLoop.by xs.length I h0 hL ?_ fun acc G h1 h2 => ⟨⟨xs, hl _ _ _ h1 h2, Nat.le_refl _⟩, hd acc G h1 h2⟩
  intro i acc G hi h1 h2
  have q := hl i acc G h1 h2
  have hx : xs[i]? = some xs[i] := List.getElem?_eq_getElem hi
  refine ⟨⟨xs, xs[i], q, hx⟩, ?_⟩
  rintro N hN x G' ⟨rfl, hx'⟩
  exact hs i x acc _ (hx' xs q) h1 h2 N hN
theorem CLoop.range {L : Addr} {lo : Int} {n : Nat} (I : Nat → List V → Hp → Prop) (h0 : I 0 [] H) (hL : H L = some (.lst []))
    (hs : ∀ i acc G, i < n → I i acc G → G L = some (.lst acc) → ∀ N : Hp → Prop, (∀ a G', I (i + 1) a G' → G' L = some (.lst a) → N G') →
      g (.int (lo + i)) (wipe σ vs) G fun σ2 H2 => wipe σ2 vs = wipe σ vs ∧ tt σ2 H2 fun b H3 =>
        if b = true then te σ2 H3 fun y H4 => ∃ a, H4 L = some (.lst a) ∧ a.length < sizeLine ∧ N (upd H4 L (.lst (a ++ [y]))) else N H3)
    (hd : ∀ acc G, I n acc G → G L = some (.lst acc) → Q (.ref L) G) : CLoop (Itr lo n) g tt te vs σ L Q H := by
  refine CLoop.by n I h0 hL ?_ fun acc G h1 h2 => ⟨Nat.le_refl _, hd acc G h1 h2⟩
  intro i acc G hi h1 h2
  refine ⟨hi, ?_⟩
  rintro N hN x G' ⟨rfl, rfl⟩
  exact hs i acc _ hi h1 h2 N hN
theorem CLoop.str {L : Addr} {x : Str} (I : Nat → List V → Hp → Prop) (h0 : I 0 [] H) (hL : H L = some (.lst []))
    (hs : ∀ i k acc G, x.cps.toList[i]? = some k → I i acc G → G L = some (.lst acc) → ∀ N : Hp → Prop, (∀ a G', I (i + 1) a G' → G' L = some (.lst a) → N G') →
      g (.str ⟨#[k]⟩) (wipe σ vs) G fun σ2 H2 => wipe σ2 vs = wipe σ vs ∧ tt σ2 H2 fun b H3 =>
        if b = true then te σ2 H3 fun y H4 => ∃ a, H4 L = some (.lst a) ∧ a.length < sizeLine ∧ N (upd H4 L (.lst (a ++ [y]))) else N H3)
    (hd : ∀ acc G, I x.cps.toList.length acc G → G L = some (.lst acc) → Q (.ref L) G) : CLoop (Its x) g tt te vs σ L Q H := by
  have size : x.cps.size = x.cps.toList.length := by simp
  refine CLoop.by x.cps.toList.length I h0 hL ?_ fun acc G h1 h2 => ⟨by show x.cps.size ≤ _; omega, hd acc G h1 h2⟩
  intro i acc G hi h1 h2
  refine ⟨by show i < x.cps.size; omega, ?_⟩
  rintro N hN v G' ⟨rfl, k, hk, rfl⟩
  exact hs i k acc _ (by rw [Array.getElem?_toList]; exact hk) h1 h2 N hN
end
/-- texts by their signs -/
def tx (l : List Nat) : Str := ⟨l.toArray⟩
theorem tx_app (a b : List Nat) : tx a ++ tx b = tx (a ++ b) := by
  unfold tx
  show (⟨a.toArray ++ b.toArray⟩ : Str) = _
  rw [List.append_toArray]
theorem tx_one (c : Nat) : (⟨#[c]⟩ : Str) = tx [c] := rfl
theorem tx_len (l : List Nat) : (tx l).length = l.length := by simp [tx, Str.length]
theorem tx_list (l : List Nat) : (tx l).cps.toList = l := by simp [tx]
theorem tx_inj {a b : List Nat} (h : tx a = tx b) : a = b := by
  have := congrArg (fun z : Str => z.cps.toList) h
  simpa [tx] using this
theorem same_upd {H : Hp} {p : Addr} {o : HO} (h : H p = none) : Same H (upd H p o) := fun b x e => by
  rw [upd_ne (ne_of_none e h)]
  exact e
theorem sameU {H G : Hp} {p : Addr} {o : HO} (s : Same H G) (h : G p = none) : Same H (L2.upd G p o) := s.trans (same_upd h)
theorem small {n : Nat} (h : n ≤ 1000000) : n ≤ sizeLine := by rw [sizeLine_eq]; omega
theorem cx_K {CX : CXT} {P : Program} {w : World} {K : PySem.W.Frag} {mg : Str → Option Value} {base : Heap} {N : List Str} {qual : Str} {scope : Scope} {f : Addr} {cd : Value} {A : Around} {outer : List Env} {s : Shared} {H : Hp} {E : XK} :
    (cxOf CX P w K mg base N qual scope f cd A outer s H E).K = K := rfl
theorem line (n : Nat) (h : n ≤ 1000000 := by omega) : n ≤ sizeLine := small h
theorem ltline (n : Nat) (h : n ≤ 1000000 := by omega) : n < sizeLine := by rw [sizeLine_eq]; omega
/-! ### data of ints -/
theorem dpInts {K : PySem.W.Frag} {H : Hp} : ∀ ns : List Int, DpAll K H (ns.map V.int) (ns.map PyData.int)
  | [] => .nil
  | n :: r => .cons (.int n) (dpInts r)
theorem canLayInts : ∀ ns : List Int, PyData.canLayAll0 (ns.map PyData.int) = true
  | [] => by simp [PyData.canLayAll0]
  | n :: r => by simp [PyData.canLayAll0, PyData.canLay0, canLayInts r]
theorem depthInts : ∀ ns : List Int, PyData.depthAll (ns.map PyData.int) = 0
  | [] => by simp [PyData.depthAll]
  | n :: r => by simp [PyData.depthAll, PyData.depth, depthInts r]
theorem shapedInts (ns : List Int) : SeqAt.shaped (.list (ns.map PyData.int)) = true := by
  simp [SeqAt.shaped, PyData.canLay0, canLayInts, PyData.depth, depthInts]
theorem eqvNil (ns : List Int) : PyData.eqv (.list (ns.map PyData.int)) (.list []) = ns.isEmpty := by
  cases ns <;> simp [PyData.eqv, PyData.eqvAll]
/-! ### the draws of a law: p the feed, l its cells, n the draws so far -/
def Feed (H : Hp) (p l : Addr) (n : Nat) : Prop := ∃ (ns : List Int) (m : Int),
  H p = some (.lst [.ref l, .int m, .int (n : Nat)]) ∧ H l = some (.lst (ns.map V.int)) ∧ ns.length ≤ 63 ∧ n ≤ 10 ^ 9
/-- all else stays -/
def Keep (p l : Addr) (H H' : Hp) : Prop := ∀ b o, H b = some o → b ≠ p → b ≠ l → H' b = some o
theorem Keep.refl (p l : Addr) (H : Hp) : Keep p l H H := fun _ _ h _ _ => h
theorem Keep.trans {p l : Addr} {H G F : Hp} (a : Keep p l H G) (b : Keep p l G F) : Keep p l H F := fun c o h x y => b c o (a c o h x y) x y
theorem Keep.of {p l : Addr} {H G : Hp} (s : Same H G) : Keep p l H G := fun b o h _ _ => s b o h
theorem Feed.ne {H : Hp} {p l : Addr} {n : Nat} (h : Feed H p l n) : p ≠ l := by
  obtain ⟨ns, m, h1, h2, _⟩ := h
  refine ne_of h1 h2 ?_
  intro e
  injection e with e
  cases ns with
  | nil => cases e
  | cons a r =>
    injection e with e _
    cases e
theorem Feed.same {H G : Hp} {p l : Addr} {n : Nat} (h : Feed H p l n) (s : Same H G) : Feed G p l n := by
  obtain ⟨ns, m, h1, h2, h3⟩ := h
  exact ⟨ns, m, s _ _ h1, s _ _ h2, h3⟩
/-- a new object, or one that is none of both, does not touch a feed -/
theorem Feed.upd {H : Hp} {p l q : Addr} {o : HO} {n : Nat} (h : Feed H p l n) (hp : q ≠ p) (hl : q ≠ l) : Feed (L2.upd H q o) p l n := by
  obtain ⟨ns, m, h1, h2, h3⟩ := h
  exact ⟨ns, m, by rw [upd_ne (Ne.symm hp)]; exact h1, by rw [upd_ne (Ne.symm hl)]; exact h2, h3⟩
def sp_feed (K : PySem.W.Frag) : Sp := fun vs H Q _ => ∃ (a : Addr) (ns : List Int), vs = [.ref a] ∧ SqL K H a (ns.map V.int) ∧ ns.length ≤ 63 ∧
  ∀ p l H', Same H H' → H p = none → H l = none → Feed H' p l 0 → Q (.ref p) H'
def sp_take : Sp := fun vs H Q _ => ∃ (p l : Addr) (n : Nat) (many : Int), vs = [.ref p, .int many] ∧ Feed H p l n ∧ n < 10 ^ 9 ∧ 0 < many ∧ many < 1000000000 ∧
  ∀ (r : Int) H', 0 ≤ r → r < many → Feed H' p l (n + 1) → Keep p l H H' → Q (.int r) H'
theorem cut63 {xs : List V} (h : xs.length ≤ 63) : cutV xs none (some 63) = xs := by
  unfold cutV
  rw [HT.sIx_none, show HT.sIx xs.length xs.length (some 63) = min 63 xs.length from HT.sIx_nat xs.length xs.length 63]
  rw [List.drop_zero, List.take_of_length_le (by omega)]
theorem int_at {ns : List Int} {i : Nat} {x : V} (h : (ns.map V.int)[i]? = some x) : ∃ y, x = .int y := by
  rw [List.getElem?_map] at h
  cases e : ns[i]? with
  | none => rw [e] at h; cases h
  | some y => rw [e] at h; exact ⟨y, (Option.some.inj h).symm⟩
/-- the new object at p is written again -/
theorem sameU' {H G : Hp} {p : Addr} {o : HO} (s : Same H G) (h : H p = none) : Same H (L2.upd G p o) := fun b x e => by
  rw [upd_ne (ne_of_none e h)]
  exact s b x e
theorem cat_nil {H : Hp} {p : Addr} {xs : List V} (h : H p = some (.lst xs)) : H p = some (.lst (xs ++ [])) := by rw [List.append_nil]; exact h
end Lay
/-! Data of any depth with dicts in it: how it stands on the heap, and its repr. -/
namespace Lay
open PySem PySem.Spec PyProof.Rows L2
def keyD : Key → PyData
  | .inl i => .int i
  | .inr x => .str x
mutual
inductive Dx (K : PySem.W.Frag) (H : Hp) : V → PyData → Prop
  | non : Dx K H .non .none
  | bl (b : Bool) : Dx K H (.bl b) (.bool b)
  | int (i : Int) : Dx K H (.int i) (.int i)
  | str (x : Str) : Dx K H (.str x) (.str x)
  | lst {a : Addr} {xs : List V} {ds : List PyData} : SqL K H a xs → DxAll K H xs ds → Dx K H (.ref a) (.list ds)
  | tup {a : Addr} {xs : List V} {ds : List PyData} : SqT K H a xs → DxAll K H xs ds → Dx K H (.ref a) (.tuple ds)
  | dct {a : Addr} {es : List (Key × V)} {ds : List (PyData × PyData)} : H a = some (.dK es) →
      es.map (fun e => keyD e.1) = ds.map (·.1) → DxAll K H (es.map (·.2)) (ds.map (·.2)) → Dx K H (.ref a) (.dict ds)
inductive DxAll (K : PySem.W.Frag) (H : Hp) : List V → List PyData → Prop
  | nil : DxAll K H [] []
  | cons {v : V} {vs : List V} {d : PyData} {ds : List PyData} : Dx K H v d → DxAll K H vs ds → DxAll K H (v :: vs) (d :: ds)
end
section
variable {X : Cx} {pins : List (Addr × Obj)} {σ : L2.St} {H : Hp} {s : Shared}
/-- the built-in repr, called where no repr is under way -/
def Top (P : Program) (w : World) (h : Heap) (d : PyData) (u : Value) : Prop :=
  ∀ (A : Around) (E : Value → Shared → Prop) (t : Shared) (Q : Value → Shared → Prop), Quiet A → A.units + (d.depth + 1) < cLine →
    (∀ b o, h.get? b = some o → t.heap.get? b = some o) →
    (∀ h' z tk, (∀ b o, t.heap.get? b = some o → h'.get? b = some o) → Q (.str d.shown z) { t with heap := h', toks := tk }) →
    wpAny (model P w) A (call (.builtin "repr") [u]) Q E t
theorem Top.slot {P : Program} {w : World} {h : Heap} {d : PyData} {a : Addr} {T idr : String} {o : Obj} (ho : h.get? a = some o) (hc : o.cls = .type T) (S : SlotG T "__repr__" idr)
    (c : ∀ (A : Around) (E : Value → Shared → Prop) (t : Shared) (Q : Value → Shared → Prop), Quiet A → A.units + d.depth < cLine →
      (∀ b o, h.get? b = some o → t.heap.get? b = some o) →
      (∀ h' z tk, (∀ b o, t.heap.get? b = some o → h'.get? b = some o) → Q (.str d.shown z) { t with heap := h', toks := tk }) →
      wpAny (model P w) A (call (.builtin idr) [.ref a]) Q E t) : Top P w h d (.ref a) := by
  intro A E t Q hq hu hk hQ
  refine call_repr_slot (by omega) ⟨o, hk _ _ ho, hc⟩ S (c A.in1 E t _ hq (by show A.units + 1 + d.depth < cLine; omega) hk ?_)
  intro h' z tk k
  exact ⟨_, _, rfl, hQ h' z tk k⟩
def Sh (P : Program) (w : World) (h : Heap) (d : PyData) (u : Value) : Prop := ∃ as, Reads h u d as ∧
  (d.showable = true → d.shown.length ≤ sizeLine → (∃ bs, ReadAtMost h d.depth bs ∧ ReprK P w bs h d.depth u d.shown) ∧ Top P w h d u)
def ShAll (P : Program) (w : World) (h : Heap) (ds : List PyData) (us : List Value) : Prop := ∃ as, ReadsAll h us ds as ∧
  (PyData.showableAll ds = true → (∀ t ∈ PyData.shownAll ds, t.length ≤ sizeLine) →
    ∃ bs, ReadAtMost h (PyData.depthAll ds) bs ∧ ReprAllK P w bs h (PyData.depthAll ds) us (PyData.shownAll ds))
theorem ShAll.cons {P : Program} {w : World} {h : Heap} {d : PyData} {ds : List PyData} {u : Value} {us : List Value}
    (a : Sh P w h d u) (b : ShAll P w h ds us) : ShAll P w h (d :: ds) (u :: us) := by
  obtain ⟨as, r1, f⟩ := a
  obtain ⟨bs, r2, g⟩ := b
  refine ⟨_, .cons r1 r2, ?_⟩
  intro hs hz
  simp only [PyData.showableAll, Bool.and_eq_true] at hs
  simp only [PyData.shownAll, List.mem_cons, forall_eq_or_imp] at hz
  obtain ⟨⟨b1, m1, k1⟩, _⟩ := f hs.1 hz.1
  obtain ⟨b2, m2, k2⟩ := g hs.2 hz.2
  refine ⟨b1 ++ b2, ?_, ?_⟩
  · simp only [PyData.depthAll]
    exact (m1.mono (Nat.le_max_left _ _)).append (m2.mono (Nat.le_max_right _ _))
  · simp only [PyData.depthAll, PyData.shownAll]
    exact .cons ((k1.more fun _ q => List.mem_append_left _ q).level_le (Nat.le_max_left _ _))
      (k2.more_le (fun _ q => List.mem_append_right _ q) (Nat.le_max_right _ _))
theorem ShAll.nil {P : Program} {w : World} {h : Heap} : ShAll P w h [] [] :=
  ⟨_, .nil, fun _ _ => ⟨[], (fun _ q => nomatch q), by simp only [PyData.shownAll]; exact .nil⟩⟩
theorem sh_key {P : Program} {w : World} {h : Heap} {k : Key} {u : Value} (e : keyIs k u = true) : Sh P w h (keyD k) u := by
  rcases keyIs_shape e with ⟨i, t, rfl, rfl⟩ | ⟨x, t, rfl, rfl⟩
  · refine ⟨_, .int i t, fun hs _ => ⟨⟨[], (fun _ q => nomatch q), ?_⟩, ?_⟩⟩
    · have hs : i.natAbs.log2 < 1920 := by simpa [keyD, PyData.showable] using hs
      simp only [keyD, PyData.shown]
      exact .of_is (ReprIs.int t hs) _ _ _
    · have hs : i.natAbs.log2 < 1920 := by simpa [keyD, PyData.showable] using hs
      intro A E t' Q _ _ _ hQ
      simp only [keyD, PyData.shown] at hQ
      exact PySem.P.repr_of_int hs (hQ t'.heap _ _ fun _ _ z => z)
  · refine ⟨_, .str x t, fun _ hz => ⟨⟨[], (fun _ q => nomatch q), ?_⟩, ?_⟩⟩
    · simp only [keyD, PyData.shown] at hz ⊢
      exact .of_is (ReprIs.str x t hz) _ _ _
    · intro A E t' Q _ _ _ hQ
      simp only [keyD, PyData.shown] at hQ hz
      exact PySem.P.repr_of_str (hQ t'.heap _ _ fun _ _ z => z) hz
/-- the entries of a dict on the heap: their keys, their values -/
theorem sh_pairs {P : Program} {w : World} {h : Heap} : ∀ {es : List DictEntry} {vs : List (Key × Value)} {kvs : List (Key × V)},
    Pairs (mixKind P w) es vs → KV kvs vs → ShAll P w h (kvs.map fun e => keyD e.1) (es.map (·.key)) ∧ Vals (kvs.map (·.2)) (es.map (·.val))
  | _, _, _, .nil, .nil => ⟨.nil, .nil⟩
  | _, _, _, .cons h1 h2 t, .cons ⟨e1, e2⟩ r => by
    obtain ⟨a, b⟩ := sh_pairs t r
    refine ⟨.cons (sh_key (by rw [e1]; exact h1)) a, .cons ?_ b⟩
    show L2.RelV _ _
    rw [← h2] at e2
    exact e2

theorem showable_size {ds : List (PyData × PyData)} : sizeOf (ds.map (·.2)) ≤ sizeOf ds := by
  induction ds with
  | nil => simp
  | cons p r ih =>
    obtain ⟨a, b⟩ := p
    simp only [List.map_cons, List.cons.sizeOf_spec, Prod.mk.sizeOf_spec]
    omega

theorem sh_of (I : Inv X pins σ H s) : ∀ n, (∀ d : PyData, sizeOf d < n → ∀ v u, Dx X.K H v d → RelV v u → Sh X.prog X.w s.heap d u) ∧
    (∀ ds : List PyData, sizeOf ds < n → ∀ vs us, DxAll X.K H vs ds → Vals vs us → ShAll X.prog X.w s.heap ds us) := by
  intro n
  induction n with
  | zero => exact ⟨fun d h => by omega, fun d h => by omega⟩
  | succ n ih =>
    obtain ⟨one, all⟩ := ih
    refine ⟨?_, ?_⟩
    · intro d hn v u hd ru
      cases hd with
      | non =>
        cases ru
        refine ⟨_, .none, fun _ _ => ⟨⟨[], (fun _ q => nomatch q), by simp only [PyData.shown]; exact .of_is ReprIs.none _ _ _⟩, ?_⟩⟩
        intro A E t' Q _ _ _ hQ
        rw [PyData.shown_none] at hQ
        exact PySem.P.repr_of_none (hQ t'.heap _ _ fun _ _ z => z)
      | bl b =>
        cases ru
        refine ⟨_, .bool b, fun _ _ => ⟨⟨[], (fun _ q => nomatch q), by simp only [PyData.shown]; exact .of_is (ReprIs.bool b) _ _ _⟩, ?_⟩⟩
        intro A E t' Q _ _ _ hQ
        rw [PyData.shown_bool] at hQ
        exact PySem.P.repr_of_bool (hQ t'.heap _ _ fun _ _ z => z)
      | int i =>
        obtain ⟨t, rfl⟩ := ru
        exact sh_key (k := .inl i) (keyIs_int i t)
      | str x =>
        obtain ⟨t, rfl⟩ := ru
        exact sh_key (k := .inr x) (keyIs_str x t)
      | @lst a xs ds hs ha =>
        cases ru
        obtain ⟨its, rv, ⟨o, m, ho, hc, _, hdt⟩, _⟩ := I.list hs
        obtain ⟨as, hr, f⟩ := all ds (by simp only [PyData.list.sizeOf_spec] at hn; omega) _ _ ha rv
        have r : Reads s.heap (.ref a) (.list ds) _ := .list ho hc hdt hr
        refine ⟨_, r, fun sh hz => ?_⟩
        have hz' : (listText (PyData.shownAll ds)).length ≤ sizeLine := by simpa only [PyData.shown] using hz
        obtain ⟨bs, hb, hk⟩ := f (by simpa [PyData.showable] using sh) fun t ht => Nat.le_trans (listText_mem_le ht) hz'
        have hna : a ∉ bs := not_mem_of_deeper r (by simp only [PyData.depth]; omega) hb
        refine ⟨⟨a :: bs, ReadAtMost.cons r (by simp only [PyData.depth]; omega) hb, ?_⟩, Top.slot ho hc F.slot_list_repr.toG ?_⟩
        · simp only [PyData.depth, PyData.shown]
          cases its with
          | nil =>
            cases hr
            simp only [PyData.shownAll, listText_nil]
            exact ReprK.listEmpty ho hc hdt
          | cons x l => exact ReprK.list ho hc hdt hna (by simpa using hk.length_eq) fun i y e => hk.item i y (by simpa using e)
        · intro A E t Q hq hu keep hQ
          simp only [PyData.depth] at hu
          simp only [PyData.shown] at hQ
          cases its with
          | nil =>
            cases hr
            simp only [PyData.shownAll, listText_nil] at hQ
            exact call_list_repr_empty ⟨o, keep _ _ ho, hc⟩ (keep _ _ ho) hdt (hQ t.heap _ _ fun _ _ z => z)
          | cons x l =>
            exact call_list_reprK ho hc hdt hna (by simpa using hk.length_eq) (fun i y e => hk.item i y (by simpa using e)) hq (fun b _ => Clear.nil b) hu keep hQ hz'
      | @tup a xs ds hs ha =>
        cases ru
        obtain ⟨its, rv, ⟨o, ho, hc, m, hdt⟩, _⟩ := I.tuple hs
        obtain ⟨as, hr, f⟩ := all ds (by simp only [PyData.tuple.sizeOf_spec] at hn; omega) _ _ ha rv
        have r : Reads s.heap (.ref a) (.tuple ds) _ := .tuple ho hc hdt hr
        refine ⟨_, r, fun sh hz => ?_⟩
        have hz' : (tupleText (PyData.shownAll ds)).length ≤ sizeLine := by simpa only [PyData.shown] using hz
        obtain ⟨bs, hb, hk⟩ := f (by simpa [PyData.showable] using sh) fun t ht => Nat.le_trans (tupleText_mem_le ht) hz'
        have hna : a ∉ bs := not_mem_of_deeper r (by simp only [PyData.depth]; omega) hb
        refine ⟨⟨a :: bs, ReadAtMost.cons r (by simp only [PyData.depth]; omega) hb, ?_⟩, Top.slot ho hc F.slot_tuple_repr ?_⟩
        · simp only [PyData.depth, PyData.shown]
          exact ReprK.tuple ho hc hdt hna (by simpa using hk)
        · intro A E t Q hq hu keep hQ
          simp only [PyData.depth] at hu
          simp only [PyData.shown] at hQ
          exact call_tuple_reprK ho hc hdt hna (by simpa using hk) hq (fun b _ => Clear.nil b) hu keep hQ hz'
      | @dct a es ds ha hk hv =>
        cases ru
        obtain ⟨z, hsys, vs, rkv, o, en, ep, ho, hx, hdt, _, hp, _⟩ := dk_of I.hok ha
        obtain ⟨keys, vals⟩ := sh_pairs (P := X.prog) (w := X.w) (h := s.heap) hp rkv
        rw [hk] at keys
        obtain ⟨as, r1, f1⟩ := keys
        have sz := showable_size (ds := ds)
        obtain ⟨bs, r2, f2⟩ := all (ds.map (·.2)) (by simp only [PyData.dict.sizeOf_spec] at hn; omega) _ _ hv vals
        have r : Reads s.heap (.ref a) (.dict ds) _ := .dict ho hx.1 hdt r1 r2
        refine ⟨_, r, fun sh hz => ?_⟩
        have hz' : (dictText (PyData.shownKv ds)).length ≤ sizeLine := by simpa only [PyData.shown] using hz
        obtain ⟨s1, s2⟩ := PyData.showableKv_split ds (by simpa [PyData.showable] using sh)
        obtain ⟨b1, m1, k1⟩ := f1 s1 fun t ht => by
          obtain ⟨p, hp, hl⟩ := PyData.shownKv_key_le ds t ht
          exact Nat.le_trans hl (Nat.le_trans (dictText_mem_le hp) hz')
        obtain ⟨b2, m2, k2⟩ := f2 s2 fun t ht => by
          obtain ⟨p, hp, hl⟩ := PyData.shownKv_val_le ds t ht
          exact Nat.le_trans hl (Nat.le_trans (dictText_mem_le hp) hz')
        have hb : ReadAtMost s.heap (PyData.depthKv ds) (b1 ++ b2) := (m1.mono (PyData.depthAll_keys_le ds)).append (m2.mono (PyData.depthAll_vals_le ds))
        have hna : a ∉ b1 ++ b2 := not_mem_of_deeper r (by simp only [PyData.depth]; omega) hb
        have both := ReprEntriesK.of_two en.toList _ _ (k1.more_le (fun _ q => List.mem_append_left b2 q) (PyData.depthAll_keys_le ds))
          (k2.more_le (fun _ q => List.mem_append_right b1 q) (PyData.depthAll_vals_le ds))
        refine ⟨⟨a :: (b1 ++ b2), ReadAtMost.cons r (by simp only [PyData.depth]; omega) hb, ?_⟩, Top.slot ho hx.1 F.slot_dict_repr ?_⟩
        · simp only [PyData.depth, PyData.shown, PyData.shownKv_eq]
          exact ReprK.dict ho hx.1 hdt hsys hna both
        · intro A E t Q hq hu keep hQ
          simp only [PyData.depth] at hu
          simp only [PyData.shown, PyData.shownKv_eq] at hQ
          exact call_dict_reprK ho hx.1 hdt hsys hna both hq (fun b _ => Clear.nil b) hu keep hQ (by rw [← PyData.shownKv_eq]; exact hz')
    · intro ds hn vs us ha rv
      cases ha with
      | nil =>
        cases rv
        exact .nil
      | cons h1 h2 =>
        cases rv with
        | cons r1 r2 =>
          simp only [List.cons.sizeOf_spec] at hn
          exact .cons (one _ (by omega) _ _ h1 r1) (all _ (by omega) _ _ h2 r2)
end
section
variable {X : Cx}
/-- repr(x), x data of any depth -/
def rReprX (K : PySem.W.Frag) : List V → Hp → VK → Prop := fun xs H Q =>
  ∃ v d, xs = [v] ∧ Dx K H v d ∧ d.showable = true ∧ d.depth ≤ 60 ∧ d.shown.length ≤ sizeLine ∧ Q (.str d.shown) H
theorem call_repr_X (hu : X.A.units + 64 < cLine) (hq : Quiet X.A) : CallR X (.builtin "repr") (rReprX X.K) := by
  intro pins s σ H xs us Q I r h
  obtain ⟨v, d, rfl, hd, hs, hdep, hsz, q⟩ := h
  obtain ⟨u, rfl, ru⟩ := vals1 r
  obtain ⟨as, rd, f⟩ := (sh_of I (sizeOf d + 1)).1 d (by omega) v u hd ru
  exact (f hs hsz).2 X.A X.xe s _ hq (by omega) (fun _ _ z => z) fun h' z tk keep => ⟨.str _, H, I.kept keep, ⟨z, rfl⟩, q⟩
end
end Lay
/-! The rules that speak of the written part, with that part named: so they stand within a comprehension, too. -/
namespace Lay
open PySem PySem.Spec PyProof.Rows L2
section
variable {X : Cx} {o e e2 : Expr} {es : List Expr} {ta tb to : TE} {t : TA} {K : PySem.W.Frag}
theorem ixLK (K : PySem.W.Frag) (h : X.K = K := by rfl) : IxR X (rIxL K) := h ▸ ix_list
theorem ixTK (K : PySem.W.Frag) (h : X.K = K := by rfl) : IxR X (rIxT K) := h ▸ ix_tup
def rLenK (K : PySem.W.Frag) : List V → Hp → VK → Prop := fun xs H Q => ∃ p ys, xs = [.ref p] ∧ (SqL K H p ys ∨ SqT K H p ys) ∧ Q (.int ys.length) H
theorem lenK (K : PySem.W.Frag) (h : X.K = K := by rfl) : CallR X (.builtin "len") (rLenK K) := h ▸ call_len_seq
theorem inK (K : PySem.W.Frag) (h : X.K = K := by rfl) : OpR X (compareOp .In) (rIn K false) := h ▸ op_in_seq
theorem notInK (K : PySem.W.Frag) (h : X.K = K := by rfl) : OpR X (compareOp .NotIn) (rIn K true) := h ▸ op_notIn_seq
theorem eqDK (K : PySem.W.Frag) (hu : X.A.units + 64 < cLine) (h : X.K = K := by rfl) : OpR X (compareOp .Eq) (rEqD K) := h ▸ op_eqD hu
theorem neDK (K : PySem.W.Frag) (hu : X.A.units + 64 < cLine) (h : X.K = K := by rfl) : OpR X (compareOp .NotEq) (rNeD K) := h ▸ op_neD hu
theorem ltDK (K : PySem.W.Frag) (hu : X.A.units + 64 < cLine) (h : X.K = K := by rfl) : OpR X (compareOp .Lt) (rLtD K) := h ▸ op_ltD hu
theorem reprK (K : PySem.W.Frag) (hu : X.A.units + 64 < cLine) (hq : Quiet X.A) (h : X.K = K := by rfl) : CallR X (.builtin "repr") (rReprX K) := h ▸ call_repr_X hu hq
theorem isiK (K : PySem.W.Frag) (h : X.K = K := by rfl) : CallR X (.builtin "isinstance") (rIsi K) := h ▸ call_isi
theorem slLK (K : PySem.W.Frag) (h : X.K = K := by rfl) : SlR X (rSlL K) := h ▸ sl_list
theorem slTK (K : PySem.W.Frag) (h : X.K = K := by rfl) : SlR X (rSlA K) := h ▸ sl_tupA
theorem catTK (K : PySem.W.Frag) (h : X.K = K := by rfl) : OpR X (binaryOp .Add) (rCatA K) := h ▸ op_catA
def rCopyK (K : PySem.W.Frag) : List V → Hp → VK → Prop := fun xs H Q => ∃ p ys, xs = [.ref p] ∧ (SqL K H p ys ∨ SqT K H p ys) ∧ ∀ l, H l = none → Q (.ref l) (upd H l (.lst ys))
theorem copyK (K : PySem.W.Frag) (h : X.K = K := by rfl) : CallR X (.type "list") (rCopyK K) := h ▸ call_list_of
theorem bmK (K : PySem.W.Frag) {T : String} {r : V → List V → Hp → VK → Prop} {name : Str} {apos cpos : Pos}
    (p : PE X (.Call (.Attribute o name apos) (e :: es) [] cpos) (tBM X.K T r to t)) (h : X.K = K := by rfl) :
    PE X (.Call (.Attribute o name apos) (e :: es) [] cpos) (tBM K T r to t) := h ▸ p
theorem bm0K (K : PySem.W.Frag) {T : String} {r : V → List V → Hp → VK → Prop} {name : Str} {apos cpos : Pos}
    (p : PE X (.Call (.Attribute o name apos) [] [] cpos) (tBM0 X.K T r to)) (h : X.K = K := by rfl) :
    PE X (.Call (.Attribute o name apos) [] [] cpos) (tBM0 K T r to) := h ▸ p
theorem fldK (K : PySem.W.Frag) {f : Str} {pos : Pos} (p : PE X (.Attribute o f pos) (tFld X.K to f)) (h : X.K = K := by rfl) : PE X (.Attribute o f pos) (tFld K to f) := h ▸ p
theorem gTupK (K : PySem.W.Frag) {tg : Expr} {n : Nat} {g : TGs} (p : PG X tg (gTup X.K n g)) (h : X.K = K := by rfl) : PG X tg (gTup K n g) := h ▸ p
theorem revK (K : PySem.W.Frag) {ex : Expr} (p : PE X ex (tRevL X.K ta)) (h : X.K = K := by rfl) : PE X ex (tRevL K ta) := h ▸ p
def rTupleK (K : PySem.W.Frag) : List V → Hp → VK → Prop := fun xs H Q => ∃ p ys, xs = [.ref p] ∧ ((SqL K H p ys ∧ ∀ l, H l = none → Q (.ref l) (upd H l (.tup ys))) ∨ (SqT K H p ys ∧ Q (.ref p) H))
theorem tupleK (K : PySem.W.Frag) (h : X.K = K := by rfl) : CallR X (.type "tuple") (rTupleK K) := h ▸ call_tuple_of
theorem piL (K : PySem.W.Frag) {tg it : Expr} (p : PI X tg it (iList X.K ta)) (h : X.K = K := by rfl) : PI X tg it (iList K ta) := h ▸ p
theorem piT (K : PySem.W.Frag) {tg it : Expr} (p : PI X tg it (iTup X.K ta)) (h : X.K = K := by rfl) : PI X tg it (iTup K ta) := h ▸ p
end
end Lay
/-! Errors of a program over Exception: made, their fields, which classes they are of. -/
namespace Lay
open PySem PySem.Spec PyProof.Rows L2

/-- the built-in classes above such an error -/
abbrev top3 : List Value := [.type "Exception", .type "BaseException", .type "object"]

structure ExC (K : PySem.W.Frag) (C : Addr) : Prop where
  made : PySem.W.excInitIn K C top3 "Exception.__new__" = true
  over : PySem.W.excOver K C top3 = true
  hd : PySem.W.hasDictIn K C = true
  sa : PySem.W.findIn K (.ref C) "__setattr__" = some (some (.builtin "object.__setattr__"))
  ga : PySem.W.findIn K (.ref C) "__getattribute__" =
    some (some (.builtin "BaseException.__getattribute__"))
  gg : PySem.W.findIn K (.ref C) "__getattr__" = some none
  exC : PySem.W.subIn K (.ref C) (.type "BaseException") = some true
  tyC : PySem.W.typeIn K (.ref C) = some (.type "type")
  kC : PySem.W.keepIn K (.ref C) = true

theorem ExC.cd {K : PySem.W.Frag} {C : Addr} (T : ExC K C) :
    ∃ cd, PySem.W.clsIn K C = some cd ∧ cd.hasDict = true := by
  have h := T.hd
  unfold PySem.W.hasDictIn at h
  cases e : PySem.W.clsIn K C with
  | none => rw [e] at h; cases h
  | some cd => rw [e] at h; exact ⟨cd, rfl, h⟩

section
open PySem.W PySem.HandSPX
open Builtin Builtin.ObjectAttr
variable {prog : Program} {w : World} {A : Around} {R : Result → Shared → Prop}
variable {hp : Heap} {g : Array GenState} {d : Drawn} {t : Nat} {os : OsState}
variable {K : Frag} {name : Str} {tk : Tok} {v : Value} {x C dx : Addr} {fv : Array Value}

theorem put_new (T : ExC K C) (X : K.In hp) (hx : hp.get? x = some { cls := .ref C, data := .fields fv })
    (ht : takerIn K C name = some none)
    (hq : ∀ h' tk' dx, (∀ b o, b ≠ x → hp.get? b = some o → h'.get? b = some o) → hp.objs.size ≤ dx → dx ≠ x →
      h'.get? x = some { cls := .ref C, dict := some dx, data := .fields fv } →
      h'.Ns1 dx (fun y => if y = name then some v else none) →
      R (.ok (.ret .none)) ⟨h', g, d, tk', os⟩) :
    codeAny (model prog w) A (.call (.builtin "object.__setattr__") ⟨[.ref x, .str name tk, v], []⟩) R ⟨hp, g, d, t, os⟩ := by
  obtain ⟨cd, hc, hh⟩ := T.cd
  have at0 : InstAt hp x { cls := .ref C, data := .fields fv } C none := ⟨hx, rfl, rfl, trivial⟩
  refine osa_openX F.store_Exception X at0 T.over ht (fun b => ?_)
  have far : x ≠ hp.objs.size := Nat.ne_of_lt (Heap.lt_size hx)
  have lc : Looks (model prog w) hp (classData C) cd := looks_clsIn X hc
  show wpAny _ _ (storeInOwnDict (.ref x) (.ref C) (.str name tk) name v b) _ _ _
  obtain ⟨nm, bs, mro, ns, qn, hd, sn, sb, ab, col, del⟩ := cd
  simp only at hh
  subst hh
  unfold storeInOwnDict ownDictForStores
  repeat (first
    | with_reducible refine store_in_new ?_ ?_
    | with_reducible refine wpAny_loadPart_at hx ?_
    | with_reducible refine lc.at ?_
    | wp_step)
  · exact ⟨_, #[], _,
      (Heap.get?_update_ne _ _ _ _ far.symm).trans (Heap.get?_push_at rfl rfl),
      rfl, fun e he => absurd he (by simp), fun _ => rfl⟩
  · intro h' tk' hn' hs
    have old : (hp.push { cls := .type "dict", data := .dict #[] }).get? x =
        some { cls := .ref C, data := .fields fv } := Heap.get?_push_of_some _ hx
    refine hq h' tk' hp.objs.size ?_ (Nat.le_refl _) far.symm ?_ hn'
    · intro b o hb ho
      have e1 := hs.2 b (Nat.ne_of_lt (Heap.lt_size ho))
      exact e1.trans ((Heap.get?_update_ne _ _ _ _ hb).trans (Heap.get?_push_of_some _ ho))
    · exact (hs.2 x far).trans (Heap.get?_update_self _ old rfl)

theorem put_old {m0 : Str → Option Value} {nl : List Str} (T : ExC K C) (X : K.In hp)
    (hx : hp.get? x = some { cls := .ref C, dict := some dx, data := .fields fv })
    (hns : hp.Ns1 dx m0) (hw : Within m0 nl) (hz : nl.length ≤ 1000)
    (ht : takerIn K C name = some none)
    (hq : ∀ h' tk', (∀ b o, b ≠ dx → hp.get? b = some o → h'.get? b = some o) →
      h'.Ns1 dx (fun y => if y = name then some v else m0 y) →
      R (.ok (.ret .none)) ⟨h', g, d, tk', os⟩) :
    codeAny (model prog w) A (.call (.builtin "object.__setattr__") ⟨[.ref x, .str name tk, v], []⟩) R ⟨hp, g, d, t, os⟩ := by
  obtain ⟨cd, hc, hh⟩ := T.cd
  obtain ⟨oD, _, _, hoD, _, _⟩ := hns.count hw
  have at0 : InstAt hp x { cls := .ref C, dict := some dx, data := .fields fv } C (some oD) := ⟨hx, rfl, rfl, hoD⟩
  refine osa_openX F.store_Exception X at0 T.over ht (fun b => ?_)
  have lc : Looks (model prog w) hp (classData C) cd := looks_clsIn X hc
  show wpAny _ _ (storeInOwnDict (.ref x) (.ref C) (.str name tk) name v b) _ _ _
  obtain ⟨nm, bs, mro, ns, qn, hd, sn, sb, ab, col, del⟩ := cd
  simp only at hh
  subst hh
  unfold storeInOwnDict ownDictForStores
  repeat (first
    | with_reducible refine PySem.OEX.store_in_old hns hw hz ?_
    | with_reducible refine wpAny_loadPart_at hx ?_
    | with_reducible refine lc.at ?_
    | wp_step)
  intro h' tk' hn' hs
  refine hq h' tk' ?_ hn'
  intro b o hb ho
  exact (hs.2 b hb).trans ho
end

section
variable {X : Cx} {pins : List (Addr × Obj)} {σ : L2.St} {H : Hp} {s : Shared} {a C dx : Addr} {f : Str} {y : V} {u : Value}
variable {fs : List (Str × V)} {Q : Unit → Shared → Prop} {E : Value → Shared → Prop} {A : Around}
theorem xst_new (T : ExC X.K C) (I : Inv X pins σ H s) (e : H a = some (exo a C none))
    (ht : PySem.W.takerIn X.K C f = some none) (ry : RelV y u)
    (h : ∀ dx s', H dx = none → dx ≠ a →
      Inv X pins σ (upd (upd H dx (exd dx [(f, y)])) a (exo a C (some dx))) s' → Q () s') :
    wpAny (model X.prog X.w) A (setAttr (.ref a) f u) Q E s := by
  obtain ⟨t1, ho⟩ := exo_at I.hok e
  obtain ⟨hp, g, d, t, os⟩ := s
  have at0 : PySem.W.InstAt hp a _ C none := ⟨ho, rfl, rfl, trivial⟩
  refine PySem.W.set_plain I.kIn at0 T.sa ?_
  refine put_new T I.kIn ho ht ?_
  intro h' tk' dx k dn dne hx hn
  have none_d : H dx = none := I.hok.fresh dn
  have offd : ∀ {b : Addr} {o : Obj}, hp.get? b = some o → b ≠ dx := by
    intro b o q
    exact Nat.ne_of_lt (Nat.lt_of_lt_of_le (Heap.lt_size q) dn)
  have offa : ∀ {b : Addr}, H b = none → b ≠ a := by
    intro b n z
    rw [z, e] at n
    cases n
  have un : Un X.fs [] H (upd (upd H dx (exd dx [(f, y)])) a (exo a C (some dx))) hp h' := by
    refine ⟨?_, ?_, ?_, ?_, ?_, ?_, ?_⟩
    · intro b o q n _ _
      exact k b o (offa n) q
    · intro b o q n _ _
      exact ⟨o.slots, k b o (offa n) q⟩
    · intro b o q n _
      rw [upd_ne (offa n), upd_ne (offd q)]
      exact n
    · intro b o q _
      rcases Classical.em (b = a) with z | z
      · exact ⟨_, by rw [z]; exact hx⟩
      · exact ⟨o, k b o z q⟩
    · intro b xs q
      rw [upd_ne (at_ne e q exo_tup), upd_ne (ne_of_none q none_d)]
      exact q
    · intro b o v q
      rw [upd_ne (at_ne e q exo_frz), upd_ne (ne_of_none q none_d)]
      exact q
    · intro b ps q
      exact ⟨#[], by rw [upd_ne (at_ne e q exo_tbl), upd_ne (ne_of_none q none_d), q]; simp⟩
  refine h dx _ none_d dne (I.un (t' := tk') un ?_)
  intro b o q
  rcases Classical.em (b = a) with hb | hb
  · subst hb
    rw [upd_same] at q
    cases q
    exact exo_ok hx
  · rw [upd_ne hb] at q
    rcases Classical.em (b = dx) with hd | hd
    · subst hd
      rw [upd_same] at q
      cases q
      exact exd_ok hn (relO_put (fs := []) ry fun _ => True.intro)
    · rw [upd_ne hd] at q
      refine (I.hok b o q).stay ?_ ?_ ?_
      · intro c v hc z
        refine k c v ?_ z
        rcases hc with hc | hc
        · rw [hc]
          exact hb
        · exact at_ne e hc exo_own
      · intro c hc
        rw [upd_ne (at_ne e hc exo_own), upd_ne (ne_of_none hc none_d)]
        exact hc
      · intro c xs hc
        rw [upd_ne (at_ne e hc exo_tup), upd_ne (ne_of_none hc none_d)]
        exact hc

theorem xst_old (T : ExC X.K C) (I : Inv X pins σ H s) (e : H a = some (exo a C (some dx)))
    (ed : H dx = some (exd dx fs)) (hl : fs.length ≤ 900)
    (ht : PySem.W.takerIn X.K C f = some none) (ry : RelV y u)
    (h : ∀ s', Inv X pins σ (upd H dx (exd dx ((f, y) :: fs))) s' → Q () s') :
    wpAny (model X.prog X.w) A (setAttr (.ref a) f u) Q E s := by
  obtain ⟨t1, ho⟩ := exo_at I.hok e
  obtain ⟨mA, hns, rel⟩ := exd_at I.hok ed
  have hw := within_of rel
  obtain ⟨hp, g, d, t, os⟩ := s
  obtain ⟨oD, _, _, hoD, _, _⟩ := hns.count hw
  have at0 : PySem.W.InstAt hp a _ C (some oD) := ⟨ho, rfl, rfl, hoD⟩
  refine PySem.W.set_plain I.kIn at0 T.sa ?_
  refine put_old T I.kIn ho hns hw ?_ ht ?_
  · rw [List.length_map]
    omega
  intro h' tk' k hn
  have there : ∃ o, h'.get? dx = some o := by
    obtain ⟨o, _, _, e', _⟩ := hn
    exact ⟨o, e'⟩
  exact h _ (I.write (t' := tk') (x := dx) (e := dx) (o := exd dx ((f, y) :: fs)) (by rw [ed]; exact True.intro) (.inl rfl) k there (exd_ok hn (relO_put ry rel)))
end

/-- o.f = e, o an error that is being made -/
def tXst (K : PySem.W.Frag) (f : Str) (to te : TE) : TS := fun D σ H =>
  te σ H fun y H1 => to σ H1 fun x H2 => ∃ a C : Addr, x = .ref a ∧ ExC K C ∧ PySem.W.findIn K (.ref C) f = some none ∧
    ((H2 a = some (exo a C none) ∧
        ∀ dx, H2 dx = none → dx ≠ a → D.nx σ (upd (upd H2 dx (exd dx [(f, y)])) a (exo a C (some dx)))) ∨
      ∃ (dx : Addr) (fs : List (Str × V)), H2 a = some (exo a C (some dx)) ∧ H2 dx = some (exd dx fs) ∧
        fs.length ≤ 900 ∧ D.nx σ (upd H2 dx (exd dx ((f, y) :: fs))))
theorem ps_xst {X : Cx} {o e : Expr} {to te : TE} {f : Str} {p' pos : Pos} (ho : PE X o to) (he : PE X e te)
    (hs : swapsWith e (some (.Attribute o f p')) pos.line X.env = pure false := by rfl) :
    PS X (.Assign [.Attribute o f p'] e pos) (tXst X.K f to te) where
  run := by
    intro pins s σ H D I h
    refine plainObj_wpAny_Assign_Attribute (thn (he.run pins s σ H _ I h) ?_) hs
    rintro v s1 ⟨y, H1, I1, r1, q1⟩
    refine thn (ho.run pins s1 σ H1 _ I1 q1) ?_
    rintro u s2 ⟨x, H2, I2, r2, a, C, rfl, T, hf, q⟩
    have ht : PySem.W.takerIn X.K C f = some none := by
      unfold PySem.W.takerIn
      rw [hf]
      rfl
    obtain rfl : u = Value.ref a := r2
    rcases q with ⟨ea, q⟩ | ⟨dx, fs, ea, ed, hl, q⟩
    · exact xst_new T I2 ea ht r1 fun dx s' n ne J => ⟨σ, _, J, q dx n ne⟩
    · exact xst_old T I2 ea ed hl ht r1 fun s' J => ⟨σ, _, J, q⟩
end Lay
/-! An error of a program is made, its parameters by position or by name. -/
namespace PySem
namespace LayK
open PySem.W PySem.Calls PyProof.Rows PySem.HandSPX
section
variable {prog : Program} {w : World} {A : Around} {E : Value → Shared → Prop} {R : Result → Shared → Prop}
variable {h : Heap} {g : Array GenState} {d : Drawn} {t : Nat} {os : OsState}
variable {nm q : Str} {C N : Addr} {bs bm bmB : List Value} {hdct : Bool} {sn : List Str} {sub : List Value}
variable {ab : Bool} {col : Option Bool} {dd : Option Addr} {k0 k1 k2 k3 k5 : Option Value} {B newId initId : String}
variable {rest : List Value} {kw : List (Str × Value)} {fI : Addr}

theorem check_newK {M : Model} (F : ExcBaseFacts B newId initId bmB)
    (hT : ∀ X : String, bm.contains (.type X) = bmB.contains (.type X)) {Q : Unit → Shared → Prop}
    (hC : h.get? C = some (excClassObj nm q C N bs bm hdct sn sub ab col dd k0 k1 k2 k3 k5 newId))
    (hq : Q () ⟨h, g, d, t, os⟩) :
    wpAny M A (checkBuiltinCall newId ⟨.ref C :: rest, kw⟩) Q E ⟨h, g, d, t, os⟩ := by
  have has : (Value.ref C :: bm).contains (.type B) = true := by
    rw [List.contains_cons, hT, F.hasB, Bool.or_true]
  have star := F.noStar
  simp only [checkBuiltinCall, F.newKind, F.newSplit, F.newRow]
  repeat (first
    | refine wpAny_loadPart_at hC ?_
    | (refine wpAny_isSubtype_exc hC ?_; rw [has])
    | refine wpAny_staticBase_exc hC ?_
    | refine wpAny_madeBy_exc hC ?_
    | simp only [bne_self_eq_false, Bool.false_eq_true, if_false]
    | wp_step)
  exact hq

theorem newK (F : ExcBaseFacts B newId initId bmB)
    (hT : ∀ X : String, bm.contains (.type X) = bmB.contains (.type X))
    (hC : h.get? C = some (excClassObj nm q C N bs bm hdct sn sub ab col dd k0 k1 k2 k3 k5 newId))
    (hq : R (.ok (.ret (.ref (h.objs.size + 1)))) ⟨(h.push (kdv_tup rest)).push (excO C h.objs.size), g, d, t, os⟩)
    (hrest : rest.length ≤ sizeLine) :
    codeAny (model prog w) A (.builtin newId ⟨.ref C :: rest, kw⟩) R ⟨h, g, d, t, os⟩ := by
  have ends := F.ends
  have c1 : (Value.ref C :: bm).contains (.type B) = true := by
    rw [List.contains_cons, hT, F.hasB, Bool.or_true]
  have c2 : (Value.ref C :: bm).contains (.type "AttributeError") = false := by
    rw [List.contains_cons, hT, F.noAttr]; rfl
  have c3 : (Value.ref C :: bm).contains (.type "NameError") = false := by
    rw [List.contains_cons, hT, F.noName]; rfl
  refine codeAny_builtinAt F.entry ?_
  unfold Builtin.«BaseException.__new__»
  refine wpAt_bind ?_
  show wpAt _ _ _ (stack >>= _) _ _ _
  refine wpAt_bind (wpAt_stack fun p below => wpAt_of_wpAny ?_)
  wp_walk
  refine wpAt_of_wpAny ?_
  rw [F.owner]
  repeat (first
    | with_reducible refine wpAny_madeHere_exc F.canon hC ?_
    | with_reducible refine wpAny_loadPart_at hC ?_
    | (with_reducible refine wpAny_isSubtype_exc hC ?_; first | rw [c1] | rw [c2] | rw [c3])
    | wp_step)
  show R _ _
  rw [Heap.size_push]
  exact hq

theorem type_callK (F : ExcBaseFacts B newId initId bmB)
    (hT : ∀ X : String, bm.contains (.type X) = bmB.contains (.type X)) {Q : Fin → Shared → Prop}
    (hC : h.get? C = some (excClassObj nm q C N bs bm hdct sn sub ab col dd k0 k1 k2 k3 k5 newId))
    (hi : Looks (model prog w) h (typeLookup (.ref C) "__init__") (some (.ref fI)))
    (hb : ∀ self, Looks (model prog w) h (bindSpecial (.ref fI) self) (.ref fI, [self]))
    (hrest : rest.length ≤ sizeLine)
    (hq : codeAny (model prog w) A (.call (.ref fI) ⟨.ref (h.objs.size + 1) :: rest, kw⟩)
      (fun r s' => match r with
        | .ok (.ret v) => v = .none ∧ Q (.done (.ret (.ref (h.objs.size + 1)))) s'
        | .ok _ => False
        | .error e => E e s')
      ⟨(h.push (kdv_tup rest)).push (excO C h.objs.size), g, d, t, os⟩) :
    wpAny (model prog w) A (Builtin.«type.__call__» ⟨.ref C :: rest, kw⟩) Q E ⟨h, g, d, t, os⟩ := by
  repeat (first
    | with_reducible refine wpAny_loadPart_at hC ?_
    | with_reducible refine wpAny_madeBy_exc hC ?_
    | wp_step)
  refine codeAny_call_builtin_code (Code.quiet_builtin _ F.quiet) (check_newK F hT hC ?_)
  refine newK F hT hC ?_ hrest
  show wpAny _ _ _ _ _ _
  have k : ∀ b o, h.get? b = some o → ((h.push (kdv_tup rest)).push (excO C h.objs.size)).get? b = some o := by
    intro b o e
    exact Heap.get?_push_of_some _ (Heap.get?_push_of_some _ e)
  have hC1 := k _ _ hC
  have got : ((h.push (kdv_tup rest)).push (excO C h.objs.size)).get? (h.objs.size + 1) = some (excO C h.objs.size) := by
    heap_get
  have self : (Value.ref C :: bm).contains (.ref C) = true := by simp
  have i1 := hi.keeps k
  have b1 := (hb (.ref (h.objs.size + 1))).keeps k
  unfold isInstance
  repeat (first
    | with_reducible refine wpAny_loadPart_at got ?_
    | (with_reducible refine wpAny_isSubtype_exc hC1 ?_; rw [self])
    | wp_step)
  show wpAny _ _ (typeLookup (.ref C) _) _ _ _
  refine i1.at ?_
  refine wpAny_holding (wpAny_bind (b1.at ?_))
  refine wpAny_bind (wpAny_call (codeAny_mono hq ?_))
  intro r s' z
  rcases r with e | fl
  · exact z
  cases fl with
  | ret v =>
    obtain ⟨rfl, z⟩ := z
    first
      | exact wpAny_pure (wpAny_pure z)
      | (wp_walk; exact z)
  | next => exact z.elim
  | brk => exact z.elim
  | cont => exact z.elim

theorem call_ownK (F : ExcBaseFacts B newId initId bmB)
    (hT : ∀ X : String, bm.contains (.type X) = bmB.contains (.type X))
    (hC : h.get? C = some (excClassObj nm q C N bs bm hdct sn sub ab col dd k0 k1 k2 k3 k5 newId))
    (hi : Looks (model prog w) h (typeLookup (.ref C) "__init__") (some (.ref fI)))
    (hb : ∀ self, Looks (model prog w) h (bindSpecial (.ref fI) self) (.ref fI, [self]))
    (hrest : rest.length ≤ sizeLine)
    (hq : codeAny (model prog w) (A.under (.builtin "type.__call__" ⟨.ref C :: rest, kw⟩))
      (.call (.ref fI) ⟨.ref (h.objs.size + 1) :: rest, kw⟩) (InitBack (h.objs.size + 1) R)
      ⟨(h.push (kdv_tup rest)).push (excO C h.objs.size), g, d, t, os⟩) :
    codeAny (model prog w) A (.call (.ref C) ⟨rest, kw⟩) R ⟨h, g, d, t, os⟩ := by
  have f1 := tc_lookup
  have f2 := tc_bind (.ref C)
  have hTy : (⟨h, g, d, t, os⟩ : Shared).TypeIs (.ref C) "type" := ⟨_, hC, rfl⟩
  refine codeAny_of_tree ?_
  show wpAny _ _ (callAny (.ref C) _) _ _ _
  repeat (any_goals (first
    | assumption
    | with_reducible refine wpAny_loadPart_at hC ?_
    | wp_step))
  refine ⟨rfl, ?_⟩
  refine codeAny_call_builtin_at (Code.quiet_builtin _ (by decide +kernel)) entry_typeCall ?_
  refine wpAny_check_type_call_sub hC (type_callK F hT hC hi hb hrest ?_)
  refine codeAny_mono hq ?_
  intro r s' z
  rcases r with e | (v | _ | _ | _) <;> exact z
end
end LayK
end PySem
namespace Lay
open PySem PySem.Spec PyProof.Rows L2
theorem Quiet.make {A : Around} (h : Quiet A) (C : Addr) (us : List Value) (kw : List (Str × Value)) :
    Quiet (A.under (.builtin "type.__call__" ⟨.ref C :: us, kw⟩)) := by
  have none : (Code.builtin "type.__call__" ⟨Value.ref C :: us, kw⟩).guards = [] := by rfl
  have h' : A.guards = some [] := h
  show (A.under _).guards = some []
  unfold Around.under
  rw [none, h']
  rfl

section
variable {X : Cx} {pins : List (Addr × Obj)} {σ : L2.St} {H1 : Hp} {s1 : Shared} {C fI : Addr} {k : Nat} {fd : FuncData}
variable {ps : List Str} {sp : Sp} {us ws : List Value} {vs : List V} {kw : List (Str × Value)}
theorem makeX (T : ExC X.K C) (iC : PySem.W.findIn X.K (.ref C) "__init__" = some (some (.ref fI)))
    (tI : PySem.W.typeIn X.K (.ref fI) = some (.type "function"))
    (F1 : FnG X.prog X.w X.K X.mg X.base CX0 k fI fd ps sp) (hr : Room (k + 1) X.A) (hq : Quiet X.A)
    (hb : ∀ (s : Shared) (self : Value), X.K.In s.heap → BindsTo s fd ⟨self :: us, kw⟩ (ps.zip (self :: ws)))
    (I1 : Inv X pins σ H1 s1) (r1 : Vals vs ws) (hus : us.length ≤ sizeLine) {G : Addr → Hp → Prop}
    (q1 : ∀ a, H1 a = none → sp (.ref a :: vs) (upd H1 a (exo a C none)) (fun v H2 => v = .non ∧ G a H2) E0)
    {R : Value → Shared → Prop}
    (fin : ∀ a s2, s1.heap.objs.size ≤ a → (∀ b o, s1.heap.get? b = some o → s2.heap.get? b = some o) →
      Inv X pins σ (upd H1 a (exo a C none)) s2 → ∀ u s',
      CE X.stack X.prog X.w (upd H1 a (exo a C none)) s2 (fun v H2 => v = .non ∧ G a H2) u s' → R (.ref a) s') :
    wpAny (model X.prog X.w) X.A (call (.ref C) us kw) R X.xe s1 := by
  obtain ⟨nm, N, q, bs, bm, hdct, sn, sub, ab, col, dd, k0, k1, k2, k3, k5, hC, hT⟩ := PySem.W.excInit_of I1.kIn T.made
  obtain ⟨hp, g, dr, tk, os⟩ := s1
  have big : hp.objs.size ≤ hp.objs.size + 1 := Nat.le_succ _
  have free : H1 (hp.objs.size + 1) = none := I1.hok.fresh big
  have go := q1 (hp.objs.size + 1) free
  have old : ∀ b o, hp.get? b = some o →
      ((hp.push (PySem.W.kdv_tup us)).push (PySem.HandSPX.excO C hp.objs.size)).get? b = some o := by
    intro b o e
    exact Heap.get?_push_of_some _ (Heap.get?_push_of_some _ e)
  have got : ((hp.push (PySem.W.kdv_tup us)).push (PySem.HandSPX.excO C hp.objs.size)).get? (hp.objs.size + 1) =
      some (PySem.HandSPX.excO C hp.objs.size) := by heap_get
  have I2 : Inv X pins σ (upd H1 (hp.objs.size + 1) (exo (hp.objs.size + 1) C none))
      ⟨(hp.push (PySem.W.kdv_tup us)).push (PySem.HandSPX.excO C hp.objs.size), g, dr, tk, os⟩ :=
    I1.laid (t' := tk) old big (exo_ok got)
  have r2 : Vals (V.ref (hp.objs.size + 1) :: vs) (Value.ref (hp.objs.size + 1) :: ws) := .cons rfl r1
  refine wpAny_call (PySem.LayK.call_ownK F.excBase_Exception hT hC (PySem.W.looks_findIn I1.kIn iC)
    (fun self => PySem.W.bind_fn I1.kIn self tI) hus ?_)
  have main := F1.run _ X.stack _ _ ⟨Value.ref (hp.objs.size + 1) :: us, kw⟩ (Value.ref (hp.objs.size + 1) :: ws) _ _ E0
    (hr.make C us kw) (hq.make C us kw) (I2.env0.make C us kw) (hb _ _ I2.kIn) r2 go
  refine codeAny_mono main ?_
  intro r s' z
  rcases r with er | fl
  · exact (z : False).elim
  · cases fl with
    | next => exact (z : False).elim
    | brk => exact (z : False).elim
    | cont => exact (z : False).elim
    | ret u =>
      have z' : CE X.stack X.prog X.w _ _ _ u s' := z
      have z2 := fin _ _ big old I2 u s' z'
      obtain ⟨v, H2, _, _, _, _, rv, ev, _⟩ := z'
      subst ev
      exact ⟨rv, z2⟩
end

/-- C(e, ..), C's own __init__ keeping sp: the error stands at a, its fields in its dict -/
def tMkX (C : Addr) (sp : Sp) (ta : TA) : TE := fun σ H Q => ta σ H fun vs H1 => vs.length ≤ 1000 ∧
  ∀ a, H1 a = none → sp (.ref a :: vs) (upd H1 a (exo a C none)) (fun v H2 => v = .non ∧ Q (.ref a) H2) E0
/-- the same, behind raise -/
def tMkR (C : Addr) (sp : Sp) (ta : TA) : L2.St → Hp → XK → Prop := fun σ H Q => ta σ H fun vs H1 => vs.length ≤ 1000 ∧
  ∀ a, H1 a = none → sp (.ref a :: vs) (upd H1 a (exo a C none)) (fun v H2 => v = .non ∧
    ∃ (d : Addr) (fs : List (Str × V)), H2 a = some (exo a C (some d)) ∧ H2 d = some (exd d fs) ∧ H1 d = none ∧
      Q (.ref C) (some d) (upd (del H2 a) d (.xd fs))) E0

/-- a class with its own __init__, as the text writes it -/
structure Own (P : Program) (w : World) (K : PySem.W.Frag) (mg : Str → Option Value) (base : Heap) (k : Nat) (x : Str) (C : Addr)
    (ps : List Str) (sp : Sp) : Prop where
  ex : ExC K C
  gm : mg x = some (.ref C)
  ini : ∃ fI fd, PySem.W.findIn K (.ref C) "__init__" = some (some (.ref fI)) ∧ PySem.W.typeIn K (.ref fI) = some (.type "function") ∧
    FnG P w K mg base CX0 k fI fd ("self" :: ps) sp ∧
    (∀ (s : Shared) (self : Value) (us : List Value), us.length = ps.length →
      BindsTo s fd ⟨self :: us, []⟩ ((("self" : Str) :: ps).zip (self :: us))) ∧
    (∀ (s : Shared) (self : Value) (us : List Value), us.length = ps.length →
      BindsTo s fd ⟨[self], ps.zip us⟩ ((("self" : Str) :: ps).zip (self :: us)))
section
variable {X : Cx} {k : Nat} {ps : List Str} {sp : Sp} {x : Str} {C : Addr} {p pos : Pos} {e : Expr} {es : List Expr} {t : TA} {kws : List Keyword}
theorem pe_mkx (D : Own X.prog X.w X.K X.mg X.base k x C ps sp) (hr : Room (k + 1) X.A) (hq : Quiet X.A) (ha : PA X (e :: es) t)
    (hg : Gl X x := by rfl)
    (hdb : (x == ("__debug__" : Str)) = false := by decide)
    (he : starEach (e :: es) X.env = (false, eval e X.env) :: starEach es X.env := by rfl)
    (hpl : (backTo pos (starEach es X.env)).any (·.1) = false := by rfl) :
    PE X (.Call (.Name x p) (e :: es) [] pos) (tMkX C sp t) where
  run := by
    obtain ⟨T, gm, fI, fd, iC, tI, F1, b1, _⟩ := D
    intro pins s σ H Q I h
    refine wpAny_Call_Name_kw (ld_glob I hg gm ?_ hdb)
    refine PySem.W.callWith_K (h₀ := X.base) I.ok.mod.kin T.kC (thn (ha.run pos pins s σ H _ I h) ?_) he hpl
    rintro us s1 ⟨vs, H1, I1, r1, hz, q1⟩
    refine ⟨I1.kIn, ?_⟩
    have l1 := r1.length
    have l2 : us.length = ps.length := by
      have z := F1.len _ _ _ _ (q1 _ (I1.hok.fresh (Nat.le_refl _)))
      simp only [List.length_cons] at z
      omega
    refine makeX T iC tI F1 hr hq (fun s self _ => b1 s self us l2) I1 r1 (by show us.length ≤ _; rw [sizeLine_eq]; omega) q1 ?_
    intro a s2 _ _ I2 u s' z
    obtain ⟨v, H2, J, _, _, q⟩ := I2.after z
    exact ⟨.ref a, H2, J, rfl, q⟩

theorem pe_mkxk {tk : TA} (D : Own X.prog X.w X.K X.mg X.base k x C ps sp) (hr : Room (k + 1) X.A) (hq : Quiet X.A) (hkw : PK X kws tk)
    (hks : (backToKw pos (keywordEach kws X.env)).filterMap (·.1) = ps := by rfl)
    (hg : Gl X x := by rfl)
    (hall : (backToKw pos (keywordEach kws X.env)).all (·.1.isSome) = true := by rfl)
    (hdb : (x == ("__debug__" : Str)) = false := by decide)
    (hpl : ((backTo pos (starEach [] X.env)).any (·.1) || (backToKw pos (keywordEach kws X.env)).any (·.1.isNone)) = false := by rfl) :
    PE X (.Call (.Name x p) [] kws pos) (tMkX C sp tk) where
  run := by
    obtain ⟨T, gm, fI, fd, iC, tI, F1, _, b2⟩ := D
    intro pins s σ H Q I h
    refine wpAny_Call_Name_kw (ld_glob I hg gm ?_ hdb)
    refine PySem.W.callWith_KW0 (h₀ := X.base) I.ok.mod.kin T.kC hall (thn (hkw.run pos pins s σ H _ I h) ?_) hpl
    rintro ws s1 ⟨vs, H1, I1, r1, hz, q1⟩
    refine ⟨I1.kIn, ?_⟩
    rw [hks]
    have l1 := r1.length
    have l2 : ws.length = ps.length := by
      have z := F1.len _ _ _ _ (q1 _ (I1.hok.fresh (Nat.le_refl _)))
      simp only [List.length_cons] at z
      omega
    refine makeX (us := []) T iC tI F1 hr hq (fun s self _ => b2 s self ws l2) I1 r1 (Nat.zero_le _) q1 ?_
    intro a s2 _ _ I2 u s' z
    obtain ⟨v, H2, J, _, _, q⟩ := I2.after z
    exact ⟨.ref a, H2, J, rfl, q⟩

theorem pmk_x (D : Own X.prog X.w X.K X.mg X.base k x C ps sp) (hr : Room (k + 1) X.A) (hq : Quiet X.A) (ha : PA X (e :: es) t)
    (hg : Gl X x := by rfl)
    (hdb : (x == ("__debug__" : Str)) = false := by decide)
    (he : starEach (e :: es) X.env = (false, eval e X.env) :: starEach es X.env := by rfl)
    (hpl : (backTo pos (starEach es X.env)).any (·.1) = false := by rfl) :
    PMk X (.Call (.Name x p) (e :: es) [] pos) (tMkR C sp t) := by
  obtain ⟨T, gm, fI, fd, iC, tI, F1, b1, _⟩ := D
  intro pins s σ H Q I h
  refine wpAny_Call_Name_kw (ld_glob I hg gm ?_ hdb)
  refine PySem.W.callWith_K (h₀ := X.base) I.ok.mod.kin T.kC (thn (ha.run pos pins s σ H _ I h) ?_) he hpl
  rintro us s1 ⟨vs, H1, I1, r1, hz, q1⟩
  refine ⟨I1.kIn, ?_⟩
  have l1 := r1.length
  have l2 : us.length = ps.length := by
    have z := F1.len _ _ _ _ (q1 _ (I1.hok.fresh (Nat.le_refl _)))
    simp only [List.length_cons] at z
    omega
  refine makeX T iC tI F1 hr hq (fun s self _ => b1 s self us l2) I1 r1 (by show us.length ≤ _; rw [sizeLine_eq]; omega) q1 ?_
  intro a s2 big old I2 u s' z
  obtain ⟨v, H2, os2, bare2, un2, hok2, _, _, d, fs, ea, ed, hd1, q⟩ := z
  obtain ⟨hp, g, dr, tk, os⟩ := s1
  obtain ⟨hp2, g2, dr2, tk2, os2'⟩ := s2
  obtain ⟨hp3, g3, dr3, tk3, os3⟩ := s'
  have same : os2' = os := by
    have e1 := I1.os
    have e2 := I2.os
    simp only at e1 e2
    rw [e1, e2]
  subst same
  exact mk_end (raises_own T.exC T.tyC) I1 big old un2 hok2 os2 bare2 ea ed hd1 q
end
end Lay
namespace Lay
open PySem PySem.Spec PyProof.Rows L2
/-- a class with no __init__ of its own -/
structure Own0 (K : PySem.W.Frag) (mg : Str → Option Value) (x : Str) (C : Addr) : Prop where
  ex : ExC K C
  gm : mg x = some (.ref C)
  ini : PySem.W.findIn K (.ref C) "__init__" = some (some (.builtin "Exception.__init__"))
section
variable {X : Cx} {x : Str} {C : Addr} {p pos : Pos}
theorem make0 (D : Own0 X.K X.mg x C) {s : Shared} (hk : X.K.In s.heap) {Q E : Value → Shared → Prop}
    (h : ∀ h' a, s.heap.objs.size ≤ a → (∀ b o, s.heap.get? b = some o → h'.get? b = some o) →
      (∃ t1 : Addr, h'.get? a = some ({ cls := .ref C, dict := none, data := .fields #[.ref t1, .none, .none, .none, .bool false, .none] } : Obj)) →
      Q (.ref a) { s with heap := h' }) :
    wpAny (model X.prog X.w) X.A (call (.ref C) []) Q E s := by
  obtain ⟨T, gm, iB⟩ := D
  obtain ⟨nm, N, q, bs, bm, hdct, sn, sub, ab, col, dd, k0, k1, k2, k3, k5, hC, hT⟩ := PySem.W.excInit_of hk T.made
  obtain ⟨hp, g, dr, tk, os⟩ := s
  refine PySem.W.call_B F.excBase_Exception hT hC (PySem.W.looks_findIn hk iB) (Nat.zero_le _) ?_
  intro h' old got _
  exact h h' _ (Nat.le_succ _) old ⟨_, got⟩
/-- C() -/
def tMk0 (C : Addr) : TE := fun _ H Q => ∀ a, H a = none → Q (.ref a) (upd H a (exo a C none))
theorem pe_mk0 (D : Own0 X.K X.mg x C) (hg : Gl X x := by rfl) (hdb : (x == ("__debug__" : Str)) = false := by decide) :
    PE X (.Call (.Name x p) [] [] pos) (tMk0 C) where
  run := by
    intro pins s σ H Q I h
    apply wpAny_Call_Name_kw
    refine ld_glob I hg D.gm ?_ hdb
    refine PySem.W.callWith_K0 I.kIn D.ex.kC (make0 D I.kIn ?_)
    intro h' a big old got
    obtain ⟨t1, got⟩ := got
    obtain ⟨hp, g, dr, tk, os⟩ := s
    have J : Inv X pins σ (upd H a (exo a C none)) ⟨h', g, dr, tk, os⟩ := I.laid (t' := tk) old big (exo_ok got)
    exact ⟨.ref a, _, J, rfl, h a (I.hok.fresh big)⟩
theorem pmk_x0 (D : Own0 X.K X.mg x C) (hg : Gl X x := by rfl) (hdb : (x == ("__debug__" : Str)) = false := by decide) :
    PMk X (.Call (.Name x p) [] [] pos) (fun _ H Q => Q (.ref C) none H) := by
  intro pins s σ H Q I h
  apply wpAny_Call_Name_kw
  refine ld_glob I hg D.gm ?_ hdb
  refine PySem.W.callWith_K0 I.kIn D.ex.kC (make0 D I.kIn ?_)
  intro h' a big old got
  obtain ⟨t1, got⟩ := got
  have off : s.heap.get? a = none := by
    cases e : s.heap.get? a with
    | none => rfl
    | some o => exact absurd (Heap.lt_size e) (Nat.not_lt.mpr big)
  exact ⟨a, _, _, s, H, .ref C, none, rfl, I, old, off, got, ⟨rfl, rfl⟩, rfl, rfl, I.hok.fresh big, rfl, I.bare,
    raises_own D.ex.exC D.ex.tyC, h⟩
end

/-! ### a field is read -/
/-- o.f, o an error that stands with its fields -/
def tXf (K : PySem.W.Frag) (f : Str) (te : TE) : TE := fun σ H Q => te σ H fun x H1 =>
  ∃ (a C dx : Addr) (fs : List (Str × V)) (v : V), x = .ref a ∧ ExC K C ∧ PySem.W.findIn K (.ref C) f = some none ∧
    H1 a = some (exo a C (some dx)) ∧ H1 dx = some (exd dx fs) ∧ fs.lookup f = some v ∧ Q v H1
theorem pe_xf {X : Cx} {e : Expr} {te : TE} {f : Str} {pos : Pos} (he : PE X e te)
    (hb : attributeBase e f X.env (eval e X.env) = eval e X.env := by rfl) : PE X (.Attribute e f pos) (tXf X.K f te) where
  run := by
    intro pins s σ H Q I h
    refine attr_of hb (thn (he.run pins s σ H _ I h) ?_)
    rintro u s1 ⟨x, H1, I1, rx, a, C, dx, fs, v, rfl, T, hf, ea, ed, hl, q⟩
    obtain rfl : u = Value.ref a := rx
    obtain ⟨t1, ho⟩ := exo_at I1.hok ea
    obtain ⟨mA, hns, rel⟩ := exd_at I1.hok ed
    obtain ⟨od, hod, look⟩ := lookIn_ns hns
    obtain ⟨z, hz, rz⟩ := RelO.some_of (v := v) (o := mA f) (by rw [← hl]; exact rel f)
    have at0 : PySem.W.InstAt s1.heap a _ C (some od) := ⟨ho, rfl, rfl, hod⟩
    refine HandSPX.exc_get I1.kIn at0 T.ga T.gg T.exC ?_ (handed_of rz) ⟨v, H1, I1.tok _, rz, q⟩
    exact PySem.W.findObj_own T.hd hf rfl (by rw [look, hz])

/-! ### isinstance -/
structure IsC (K : PySem.W.Frag) (C : Addr) : Prop where
  ex : ExC K C
  kc : PySem.W.findIn K (.ref C) "__class__" = some (some (.builtin "object.__class__"))
  mo : PySem.W.mroIn K C (.type "object") = some true
structure IsK (K : PySem.W.Frag) : Prop where
  gt : PySem.W.specialIn K (.builtin "object.__class__") "__get__" = some (some (.builtin "getset_descriptor.__get__"))
  tk : PySem.W.takesIn K (.builtin "object.__class__") = some true
/-- what stands of the dict -/
def DictAt (H : Hp) (d : Option Addr) : Prop := ∀ dx, d = some dx → ∃ fs, H dx = some (exd dx fs) ∨ H dx = some (.xd fs)
section
variable {X : Cx}
theorem isE {pins : List (Addr × Obj)} {σ : L2.St} {H : Hp} {s : Shared} {a C : Addr} {oe : Obj} {c : V} {cv u : Value} {b : Bool}
    {Q : VK} (hK : IsK X.K) (T : IsC X.K C)
    (I : Inv X pins σ H s) (ho : s.heap.get? a = some oe) (hc : oe.cls = .ref C) (hn : PySem.W.notCls oe = true)
    (hd : DictAt H oe.dict) (k : ClsV c u) (r2 : RelV c cv) (e : PySem.W.kitOne X.K (.ref C) u = some b) (q : Q (.bl b) H) :
    wpAny (model X.prog X.w) X.A (call (.builtin "isinstance") [.ref a, cv]) (EP X pins σ Q) X.xe s := by
  have e2 := k.eq r2
  subst e2
  have hod : ∃ od, PySem.W.InstAt s.heap a oe C od := by
    obtain ⟨cls, dict, data, slots⟩ := oe
    cases dict with
    | none => exact ⟨none, ho, hc, hn, True.intro⟩
    | some dx =>
      obtain ⟨fs, hh⟩ := hd dx rfl
      have there : ∃ od, s.heap.get? dx = some od := by
        rcases hh with hh | hh
        · obtain ⟨mA, hns, _⟩ := exd_at I.hok hh
          obtain ⟨o, _, _, e', _⟩ := hns
          exact ⟨o, e'⟩
        · obtain ⟨mA, hns, _⟩ := (show ObjOk X.prog X.w H s.heap dx (.xd fs) from I.hok dx _ hh)
          obtain ⟨o, _, _, e', _⟩ := hns
          exact ⟨o, e'⟩
      obtain ⟨od, hd'⟩ := there
      exact ⟨some od, ho, hc, hn, hd'⟩
  obtain ⟨od, at0⟩ := hod
  obtain ⟨cd, hcd, _⟩ := T.ex.cd
  have Z := PySem.W.kitx_exc (x := a) (ox := oe) (od := od) (by rw [hcd]; rfl) T.ex.ga T.ex.gg T.ex.exC T.kc hK.gt hK.tk T.mo
  exact PySem.W.kia_one Z I.kIn at0 e (fun z => nomatch z) fun tk => ⟨.bl b, H, I.tok tk, rfl, q⟩
/-- isinstance(e, c), e an error that stands -/
def rIsE (K : PySem.W.Frag) : List V → Hp → VK → Prop := fun xs H Q => ∃ (a C : Addr) (d : Option Addr) (c : V) (u : Value) (b : Bool),
  xs = [.ref a, c] ∧ ClsV c u ∧ IsC K C ∧ H a = some (exo a C d) ∧ DictAt H d ∧ PySem.W.kitOne K (.ref C) u = some b ∧ Q (.bl b) H
theorem call_isE (hK : IsK X.K) : CallR X (.builtin "isinstance") (rIsE X.K) := by
  intro pins s σ H xs us Q I r h
  obtain ⟨a, C, d, c, u, b, rfl, k, T, ea, hd, e, q⟩ := h
  obtain ⟨u1, u2, rfl, r1, r2⟩ := vals2 r
  obtain rfl : u1 = Value.ref a := r1
  obtain ⟨t1, ho⟩ := exo_at I.hok ea
  exact isE hK T I ho rfl rfl hd k r2 e q
/-- isinstance(e, c), e the error that a suite holds -/
def rIsP (K : PySem.W.Frag) (p : Addr × Obj) : List V → Hp → VK → Prop := fun xs H Q => ∃ (C : Addr) (c : V) (u : Value) (b : Bool),
  xs = [.ref p.1, c] ∧ ClsV c u ∧ IsC K C ∧ p.2.cls = .ref C ∧ PySem.W.notCls p.2 = true ∧ DictAt H p.2.dict ∧
    PySem.W.kitOne K (.ref C) u = some b ∧ Q (.bl b) H
theorem call_isP {p : Addr × Obj} (hK : IsK X.K) (hp : p ∈ X.pn) : CallR X (.builtin "isinstance") (rIsP X.K p) := by
  intro pins s σ H xs us Q I r h
  obtain ⟨C, c, u, b, rfl, k, T, hc, hn, hd, e, q⟩ := h
  obtain ⟨u1, u2, rfl, r1, r2⟩ := vals2 r
  obtain rfl : u1 = Value.ref p.1 := r1
  exact isE hK T I (I.pin p (List.mem_append_left _ hp)).1 hc hn hd k r2 e q
end

/-! ### a def that is called while a suite holds an error -/
open L2H in
structure FnP (P : Program) (w : World) (K : PySem.W.Frag) (mg : Str → Option Value) (base : Heap) (k : Nat)
    (f : Addr) (fd : FuncData) (ps : List Str) (sp : Addr × Obj → Sp) : Prop where
  len : ∀ p zs G R Z, sp p zs G R Z → zs.length = ps.length
  run : ∀ (A : Around) (out : List Env) (t : Shared) (G : Hp) (ar : Args) (ws : List Value) (zs : List V)
    (R : VK) (p : Addr × Obj), RoomH k A → PinOk out G t p → (∃ vs, p.2.data = .fields vs) → Env0 P w K mg base A out t G →
    BindsTo t fd ar (ps.zip ws) → Vals zs ws → sp p zs G R E0 →
    codeAny (model P w) A (.call (.ref f) ar) (CR CX0 out P w G t R E0) t
section
variable {P : Program} {w : World} {K : PySem.W.Frag} {mg : Str → Option Value} {base : Heap}
open L2H in
theorem okP {x qual : Str} {st : Stmt} {f : Addr} {fd : FuncData} {N ps : List Str} {k : Nat} {sp : Addr × Obj → Sp}
    (F : Fun K x qual st f fd) (S : FnScope N ps (defScope st))
    (len : ∀ p zs G R Z, sp p zs G R Z → zs.length = ps.length)
    (body : ∀ (cv : Value) (A : Around) (out : List Env) (t : Shared) (G : Hp) (zs : List V) (R : VK) (p : Addr × Obj),
      RoomH k (A.deeper (envOfC qual (defScope st) t.heap.objs.size f cv)) → (∃ vs, p.2.data = .fields vs) → sp p zs G R E0 →
      ∃ b, PSs (cxH CX0 P w K mg base N qual (defScope st) f cv A out t G E0 p) (defBody st) b ∧
        b { nx := fun _ G' => R .non G', rt := R } (start N zs) G) :
    FnP P w K mg base (k + 1) f fd ps sp where
  len := len
  run := by
    obtain ⟨oc, od, kV, dc, pm, an, cv, ct, sl, rfl, lk, hcd⟩ := F.ex
    intro A out t G ar ws zs R p hr hpin hfd e0 hb r hsp
    have old : ∀ b o, base.get? b = some o → t.heap.get? b = some o := fun b o q => (e0.bs b o q).1
    have KX : K.In t.heap := e0.mod.kin.keeps old
    have lim : t.heap.NoLimit := e0.mod.nolimit.keeps old
    obtain ⟨b, hP, hB⟩ := body cv A out t G zs R p (hr.deeper _) hfd hsp
    have kinds : ∀ y ∈ ps.zip ws, (defScope st).names.lookup y.1 = some .local ∨
        ((defScope st).names.lookup y.1 = some .cell ∧ ((cellsFrom (t.heap.objs.size + 1) (defScope st).names []).lookup y.1).isSome = true) := by
      rintro ⟨n, v⟩ hy
      have hn : n ∈ ps := (List.of_mem_zip hy).1
      exact (S.par n hn).imp id fun q => ⟨q, PySem.W.cellsFrom_some _ _ _ (.inl q)⟩
    refine codeAny_call_function hr.depth (KX _ _ lk) rfl S.co S.gen rfl (PySem.W.codeRec_of KX hcd) (hb _ _ _ _ ?_)
    refine wpAny_newFunctionEnv_cells S.kind kinds ?_
    rintro env rfl s1 x
    refine ⟨lim.keeps x.toInCall.keep, codeAny_func ?_⟩
    have I0 := inv_startH (CX := CX0) (E := E0) S hpin e0 (len _ _ _ _ _ hsp) r x
    refine wpAny_mono (hP.run [] s1 (start N zs) G _ I0 hB) ?_ fun _ _ hz => hz
    intro fl s' hs
    cases fl with
    | ret u =>
      obtain ⟨v, _, G', J, rv, q⟩ := hs
      exact ⟨v, G', J.os, J.bare, J.base, J.hok, rv, q⟩
    | next =>
      obtain ⟨_, G', J, q⟩ := hs
      exact ⟨V.non, G', J.os, J.bare, J.base, J.hok, rfl, q⟩
    | brk => exact (hs.choose_spec.choose_spec.2 : False).elim
    | cont => exact (hs.choose_spec.choose_spec.2 : False).elim
end
section
variable {X : Cx} {k : Nat} {f : Addr} {fd : FuncData} {ps : List Str} {sp : Addr × Obj → Sp} {x : Str} {p pos : Pos} {e : Expr} {es : List Expr} {t : TA}
open L2H in
theorem pe_callP {pe : Addr × Obj} (F : FnP X.prog X.w X.K X.mg X.base k f fd ps sp) (hr : RoomH k X.A) (hp : pe ∈ X.pn) (hfd : ∃ vs, pe.2.data = .fields vs)
    (hg : Gl X x) (hm : X.mg x = some (.ref f)) (hk : PySem.W.keepIn X.K (.ref f) = true) (hb : L2.Binds X.K fd ps []) (ha : PA X (e :: es) t)
    (hdb : (x == ("__debug__" : Str)) = false := by decide)
    (he : starEach (e :: es) X.env = (false, eval e X.env) :: starEach es X.env := by rfl)
    (hpl : (backTo pos (starEach es X.env)).any (·.1) = false := by rfl) :
    PE X (.Call (.Name x p) (e :: es) [] pos) (tCall (sp pe) [] E0 t) where
  run := by
    intro pins s σ H Q I h
    apply wpAny_Call_Name_kw
    refine ld_glob I hg hm ?_ hdb
    refine PySem.W.callWith_K (h₀ := X.base) I.ok.mod.kin hk (thn (ha.run pos pins s σ H _ I h) ?_) he hpl
    rintro us s1 ⟨vs, H1, I1, r, q⟩
    refine ⟨I1.kIn, ?_⟩
    rw [List.append_nil] at q
    have hl : us.length = ps.length := by rw [← r.length]; exact F.len _ _ _ _ _ q
    have b := hb s1 us I1.kIn (by rw [List.append_nil]; exact hl)
    rw [List.append_nil] at b
    have P1 := I1.pin pe (List.mem_append_left _ hp)
    have hpin : PinOk X.stack H1 s1 pe := by
      refine ⟨P1.1, P1.2.1, ?_, P1.2.2.2.2⟩
      intro hm'
      exact (List.mem_cons.mp (I1.stkSub pe.1 hm')).elim P1.2.2.1 P1.2.2.2.1
    have main := F.run X.A X.stack s1 H1 ⟨us, []⟩ us vs Q pe hr hpin hfd I1.env0 b r q
    refine wpAny_call (codeAny_mono main ?_)
    intro r s' hh
    have z := back pass0 I1 r s' hh
    rcases r with bb | fl
    · exact z
    · cases fl <;> exact z
end
end Lay
namespace Lay
open PySem
/-- the statements in a class -/
def bodyOf (s : Stmt) : List Stmt := match s with | .ClassDef (body := inner) .. => inner | _ => []
end Lay
/-! A dict written by a comprehension, its keys ints, texts, or tuples of these. -/
namespace Lay
open PySem PySem.Spec PyProof.Rows L2
section
variable {X : Cx} {pins : List (Addr × Obj)} {σ : L2.St} {H H' : Hp} {s : Shared} {E : Value → Shared → Prop} {D : Addr} {y v : V} {u r : Value} {Q : Unit → Shared → Prop}
theorem d_lay (hu : X.A.units + 1 < cLine) (I : Inv X pins σ H s) (g : DPut H D y v H') (ry : RelV y u) (rv : RelV v r)
    (h : ∀ s', Inv X pins σ H' s' → Q () s') : wpAny (model X.prog X.w) X.A (dictSet D u r) Q E s := by
  rcases g with ⟨kvs, k, e, rfl, l, rfl⟩ | ⟨kvs, k, b, e, rfl, eb, l, rfl⟩
  · exact d_dictSet I e l ry rv h
  · cases (show u = Value.ref b from ry)
    obtain ⟨z, hd, xs, rel, dd⟩ := dt_of I.hok e
    have hz : xs.length ≤ sizeLine := by
      rw [← Paired.length rel]
      exact z
    have hl : (putK kvs k v).length ≤ sizeLine := by
      have := length_putK kvs k v
      omega
    have room : (tupleKind (mixKind X.prog X.w)).room X.A := by
      show X.A.units < cLine
      omega
    refine wpAny_dictSet_heap (hsz := hz) room (key_of I.hok eb) dd ?_
    intro h' dd' hs
    refine h _ ?_
    obtain ⟨q, es, ep, hq, h2, h3, h4, _, h5⟩ := dd'
    refine d_write I (by rw [e]; exact True.intro) hs ⟨q, hq⟩ ⟨hl, hd, _, (rel.put k eb rv).keeps ?_, q, es, ep, hq, h2, h3, h4, h5⟩
    intro c ys ec
    rw [upd_ne (ne_of ec e (fun z => nomatch z))]
    exact ec
end
/-- an empty dict, of the kind that is wanted -/
def bare (tup : Bool) : HO := if tup = true then .dT [] else .dK []
theorem bare_ok {P : Program} {w : World} {H : Hp} (tup : Bool) (h : Heap) (hb : sysModules < h.objs.size) :
    ObjOk P w H (h.push { cls := .type "dict", data := .dict #[] }) h.objs.size (bare tup) := by
  cases tup
  · exact dk_empty h hb
  · exact dt_empty h hb
/-- the turns of a comprehension that writes the dict at D -/
def DcW (J : It) (g : TG) (tt : TT) (tk tv : TE) (vs : List Nat) (σ : L2.St) (D : Addr) (Q : VK) (H0 : Hp) : Prop :=
  ∃ W : Nat → Nat → Hp → Prop, (∃ m, W 0 m H0) ∧ ∀ i m H, W i m H →
    (J.stop i H ∧ Q (.ref D) H) ∨ (J.go i H ∧ ∃ N : Hp → Prop, (∀ H', N H' → ∃ m', m' < m ∧ W (i + 1) m' H') ∧
      ∀ x H', J.yld i H x H' → g x (wipe σ vs) H' fun σ2 H2 => wipe σ2 vs = wipe σ vs ∧ tt σ2 H2 fun b H3 =>
        if b = true then tk σ2 H3 fun y H4 => tv σ2 H4 fun z H5 => ∃ H6, DPut H5 D y z H6 ∧ N H6 else N H3)
def tDcP (tup : Bool) (wi : TI) (g : TG) (tt : TT) (tk tv : TE) (vs : List Nat) : TE := fun σ H Q =>
  wi σ H fun J H1 => ∀ D, H1 D = none → DcW J g tt tk tv vs σ D Q (upd H1 D (bare tup))
section
variable {X : Cx}
theorem pe_dcP (tup : Bool) {kx vx tg iter : Expr} {ifs : List Expr} {scope : Scope} {own : List (Str × Nat)} {pos : Pos} {wi : TI} {g : TG} {tt : TT} {tk tv : TE}
    (hu : X.A.units + 1 < cLine) (hc : X.calm = true) (hN : X.N.Nodup) (hi : PI X tg iter wi) (ok : BlkOk X.N X.env.scope scope own)
    (hg : ∀ (s : Shared) (H : Hp) (C : Addr) (cl : List (Str × Addr)) (fp : List Addr), PG (X.blk s H scope (compEnvC scope cl C X.env) fp) tg g)
    (ht : ∀ (s : Shared) (H : Hp) (C : Addr) (cl : List (Str × Addr)) (fp : List Addr), PTs (X.blk s H scope (compEnvC scope cl C X.env) fp) ifs tt)
    (hk : ∀ (s : Shared) (H : Hp) (C : Addr) (cl : List (Str × Addr)) (fp : List Addr), PE (X.blk s H scope (compEnvC scope cl C X.env) fp) kx tk)
    (he : ∀ (s : Shared) (H : Hp) (C : Addr) (cl : List (Str × Addr)) (fp : List Addr), PE (X.blk s H scope (compEnvC scope cl C X.env) fp) vx tv)
    (hs : ∀ x, foldedSetIterable iter X.env x = pure x := by intro _; rfl) :
    PE X (.DictComp kx vx [⟨tg, iter, ifs, 0⟩] scope pos) (tDcP tup wi g tt tk tv (own.map (·.2))) where
  run := by
    intro pins s σ H Q I h
    rw [arm_eval_DictComp]
    have seen : ∀ y ∈ scope.names, y.2 = .free → ∃ c, X.env.cells.lookup y.1 = some c := by
      intro y hy e
      rcases ok.free y hy e with k | k
      · exact I.ok.has _ (.inl k)
      · exact I.ok.has _ (.inr k)
    refine wpAny_comprehension_free rfl hs (closure_ok seen) ok.kind (fun y hy e => by rw [ok.uniq y hy, e]) (thn (hi.run pins s σ H _ I h) ?_)
    intro xv s1 hx
    refine thn hx ?_
    rintro itv s2 ⟨it, fp, tn, J, H2, rfl, I2, T, st2, f2, q⟩
    refine wpAny_newObj_type (newEnv_comp ?_)
    generalize hD : s2.heap.objs.size = D
    have free_D : H2 D = none := I2.hok.fresh (Nat.le_of_eq hD)
    obtain ⟨W, ⟨m0, w0⟩, turn⟩ := q D free_D
    generalize hs3 : ({ s2 with heap := s2.heap.push { cls := .type "dict", data := .dict #[] } } : Shared) = s3
    have h3 : s3.heap = s2.heap.push { cls := .type "dict", data := .dict #[] } := by rw [← hs3]
    have I3 : Inv X pins σ (upd H2 D (bare tup)) s3 := by
      rw [← hs3]
      refine I2.laid (t' := s2.toks) (fun b o e => Heap.get?_push_of_some _ e) (Nat.le_of_eq hD) ?_
      rw [← hD]
      exact bare_ok tup s2.heap I2.big
    have f3 : ∀ b ∈ fp, FpOk X pins (upd H2 D (bare tup)) b ∧ b < s3.heap.objs.size := by
      intro b hb
      obtain ⟨o, e, _⟩ := T.obj _ _ st2 b hb
      have hlt := Heap.lt_size e
      refine ⟨⟨?_, (f2 b hb).2⟩, ?_⟩
      · rw [upd_ne (by rw [← hD]; exact Nat.ne_of_lt hlt)]
        exact (f2 b hb).1
      · rw [h3, Heap.size_push]
        exact Nat.lt_succ_of_lt hlt
    have st3 : tn 0 s3.heap := by
      refine T.keep _ _ _ st2 ?_
      intro b _ o e
      rw [h3]
      exact Heap.get?_push_of_some _ e
    have I4 := block_start I3 ok hN f3
    generalize hcl : cellsFrom (s3.heap.objs.size + 1) scope.names (cloFrom X.env.cells scope.names []) = cl at I4
    have pg := hg s3 (upd H2 D (bare tup)) s3.heap.objs.size cl fp
    have pt := ht s3 (upd H2 D (bare tup)) s3.heap.objs.size cl fp
    have pk := hk s3 (upd H2 D (bare tup)) s3.heap.objs.size cl fp
    have pe := he s3 (upd H2 D (bare tup)) s3.heap.objs.size cl fp
    have none_fp : ∀ b ∈ fp, (upd H2 D (bare tup)) b = none := fun b hb => (f3 b hb).1.1
    subst hcl
    show codeAny _ _ (.compStart (.DictComp kx vx [⟨tg, iter, ifs, 0⟩] scope pos) 0 (.ref it) (.ref D)
      (compEnvC scope (cellsFrom (s3.heap.objs.size + 1) scope.names (cloFrom X.env.cells scope.names [])) s3.heap.objs.size X.env)) _
      { s3 with heap := pushCells (s3.heap.push { cls := .type "dict", data := .dict #[] }) scope.names }
    generalize hce : compEnvC scope (cellsFrom (s3.heap.objs.size + 1) scope.names (cloFrom X.env.cells scope.names [])) s3.heap.objs.size X.env = ce at I4 pg pt pk pe ⊢
    have at_C : ce.locals = s3.heap.objs.size := by
      subst hce
      rfl
    generalize hH3 : upd H2 D (bare tup) = H3 at I3 I4 pg pt pk pe w0 none_fp f3
    generalize hs4 : ({ s3 with heap := pushCells (s3.heap.push { cls := .type "dict", data := .dict #[] }) scope.names } : Shared) = s4 at I4 ⊢
    have st4 : tn 0 s4.heap := by
      refine T.keep _ _ _ st3 ?_
      intro b _ o e
      rw [← hs4]
      exact pushCells_keeps _ _ _ _ (Heap.get?_push_of_some _ e)
    have still : ∀ {σ' : L2.St} {H' : Hp} {s' : Shared}, Inv (X.blk s3 H3 scope ce fp) [] σ' H' s' → (∀ b ∈ fp, H' b = none) →
        ∀ b ∈ fp, FpOk (X.blk s3 H3 scope ce fp) [] H' b := by
      intro σ' H' s' I' hn b hb
      refine ⟨hn b hb, (I'.ok.exf b hb).1, I'.ok.exfs b hb, .inl hb, fun x c e => (I'.ok.exf b hb).2 x c e, ?_⟩
      intro p hp
      exact absurd (show p ∈ ([] : List (Addr × Obj)) ++ [] from hp) (by simp)
    refine codeAny_compStart_dict ?_ (T.self X.A 0 _ _ _ st4 ?_)
    all_goals
      refine compLoop_anyD (fun n s' => ∃ i H', Inv (X.blk s3 H3 scope ce fp) [] (wipe σ (own.map (·.2))) H' s' ∧ tn i s'.heap ∧
        (∀ b ∈ fp, H' b = none) ∧ W i n H') ?_ m0 ⟨0, H3, I4, st4, none_fp, w0⟩
      rintro n s5 ⟨i, H5, I5, st5, n5, w5⟩
      rcases turn i n H5 w5 with ⟨stop, qq⟩ | ⟨go, N, hN', step⟩
      · have td := T.done (X.blk s3 H3 scope ce fp) rfl rfl rfl hc i [] s5 _ H5 (fun _ _ => False) I5 (still I5 n5) st5 stop
        refine thnF td ?_
        rintro r s6 ⟨rfl, I6⟩
        have I7 : Inv X pins σ H5 s6 := I3.call' (ch := fp) I6.os I6.base I6.hok I6.bare fun b hb =>
          ⟨(f3 b hb).1.2.2.2.1, (f3 b hb).1.2.1, (f3 b hb).1.2.2.2.2.1, (f3 b hb).1.2.2.2.2.2⟩
        have none_C : H5 s3.heap.objs.size = none := by
          have z : H5 ce.locals = none := I6.free
          rw [at_C] at z
          exact z
        obtain ⟨m, hn, _⟩ := I6.loc
        have hn : s6.heap.Ns ce.locals m := hn
        rw [at_C] at hn
        have fpo := I3.fpOk (Nat.le_refl _) none_C
        refine ⟨m, hn, fun h'' sb => ?_⟩
        obtain ⟨f0, f1, f2', f3', f4, f5⟩ := fpo
        exact ⟨.ref D, H5, I7.turned (t' := s6.toks) (fun b o hb e => (sb.2 b hb).trans e) f0 f1 f3' f4 f5, rfl, qq⟩
      · have ti := T.item (X.blk s3 H3 scope ce fp) rfl rfl rfl hc i [] s5 _ H5 (fun _ _ => False) I5 (still I5 n5) st5 go
        refine thnF ti ?_
        rintro r s6 ⟨u, rfl, h6⟩
        refine thnF h6 ?_
        rintro _ s7 ⟨x, H7, I7, r7, y7, st7, n7⟩
        have I7' := I7.pinned (still I7 n7) (T.obj _ _ st7)
        refine thnF (pg.run _ s7 _ H7 x u _ I7' r7 (step x H7 y7)) ?_
        rintro _ s8 ⟨σ8, H8, I8, hw8, q8⟩
        refine thnF (pt.run _ s8 σ8 H8 _ I8 q8) ?_
        rintro b s9 ⟨H9, I9, q9⟩
        have fin : ∀ {s' : Shared} {H' : Hp}, Inv (X.blk s3 H3 scope ce fp) ([] ++ pinsAt fp s7.heap) σ8 H' s' → N H' →
            ∃ m, m < n ∧ ∃ i H', Inv (X.blk s3 H3 scope ce fp) [] (wipe σ (own.map (·.2))) H' s' ∧ tn i s'.heap ∧ (∀ b ∈ fp, H' b = none) ∧ W i m H' := by
          intro s' H' I' nx
          obtain ⟨m', hm, w'⟩ := hN' H' nx
          have pin' : ∀ b ∈ fp, ∀ o, s7.heap.get? b = some o → s'.heap.get? b = some o ∧ H' b = none := by
            intro b hb o e
            have z := I'.pin (b, o) (List.mem_append_right _ (List.mem_append_right _ (mem_pinsAt hb e)))
            exact ⟨z.1, z.2.1⟩
          have hl : (wipe σ (own.map (·.2))).length = σ8.length := by rw [← hw8, wipe_length]
          refine ⟨m', hm, i + 1, H', (I'.unpinned (pins := [])).weak hl ?_, T.keep _ _ _ st7 (fun b hb o e => (pin' b hb o e).1), ?_, w'⟩
          · intro j v e
            rw [← hw8] at e
            exact (wipe_some e).1
          · intro b hb
            obtain ⟨o, e, _⟩ := T.obj _ _ st7 b hb
            exact (pin' b hb o e).2
        cases b with
        | false =>
          simp only [Bool.false_eq_true, if_false] at q9 ⊢
          exact fin I9 q9
        | true =>
          simp only [if_true] at q9 ⊢
          refine thnF (pk.run _ s9 σ8 H9 _ I9 q9) ?_
          rintro z s10 ⟨yk, H10, I10, r10, q10⟩
          refine thnF (pe.run _ s10 σ8 H10 _ I10 q10) ?_
          rintro z2 s11 ⟨yv, H11, I11, r11, H12, put, nx⟩
          exact d_lay (X := X.blk s3 H3 scope ce fp) hu I11 put r10 r11 fun s12 I12 => fin I12 nx
end
end Lay
namespace Lay
open PySem PySem.Spec PyProof.Rows L2
section
variable {J : It} {g : TG} {tt : TT} {tk tv : TE} {vs : List Nat} {σ : L2.St} {D : Addr} {Q : VK} {H0 : Hp}
theorem DcW.by (n : Nat) (I : Nat → Hp → Prop) (h0 : I 0 H0)
    (hs : ∀ i G, i < n → I i G → J.go i G ∧ ∀ x G', J.yld i G x G' → g x (wipe σ vs) G' fun σ2 H2 => wipe σ2 vs = wipe σ vs ∧ tt σ2 H2 fun b H3 =>
      if b = true then tk σ2 H3 fun y H4 => tv σ2 H4 fun z H5 => ∃ H6, DPut H5 D y z H6 ∧ I (i + 1) H6 else I (i + 1) H3)
    (hd : ∀ G, I n G → J.stop n G ∧ Q (.ref D) G) : DcW J g tt tk tv vs σ D Q H0 := by
  refine ⟨fun i m G => m + i = n ∧ I i G, ⟨n, rfl, h0⟩, ?_⟩
  rintro i m G ⟨hm, hi⟩
  rcases Nat.lt_or_ge i n with hlt | hge
  · obtain ⟨a, b⟩ := hs i G hlt hi
    exact .inr ⟨a, I (i + 1), fun G' z => ⟨m - 1, by omega, by omega, z⟩, b⟩
  · obtain rfl : i = n := by omega
    exact .inl (hd G hi)
theorem DcW.tup {K : PySem.W.Frag} {a : Addr} (xs : List V) (I : Nat → Hp → Prop) (h0 : I 0 H0) (hl : ∀ i G, I i G → SqT K G a xs)
    (hs : ∀ i x G, xs[i]? = some x → I i G → g x (wipe σ vs) G fun σ2 H2 => wipe σ2 vs = wipe σ vs ∧ tt σ2 H2 fun b H3 =>
      if b = true then tk σ2 H3 fun y H4 => tv σ2 H4 fun z H5 => ∃ H6, DPut H5 D y z H6 ∧ I (i + 1) H6 else I (i + 1) H3)
    (hd : ∀ G, I xs.length G → Q (.ref D) G) : DcW (Itt K a) g tt tk tv vs σ D Q H0 := by
  refine DcW.by xs.length I h0 ?_ fun G h => ⟨⟨xs, hl _ _ h, Nat.le_refl _⟩, hd G h⟩
  intro i G hi h
  have q := hl i G h
  have hx : xs[i]? = some xs[i] := List.getElem?_eq_getElem hi
  refine ⟨⟨xs, xs[i], q, hx⟩, ?_⟩
  rintro x G' ⟨rfl, hx'⟩
  exact hs i x _ (hx' xs q) h
end
end Lay
namespace Lay
open PySem PySem.Spec PyProof.Rows L2
section
variable {J J1 : It} {wi wi1 : TI} {g g1 : TG} {tt tt1 : TT} {te : TE} {vs vs1 : List Nat} {σ : L2.St} {D : Addr} {Q : VK} {N : Hp → Prop} {H H0 : Hp}
/-- the turns of the second for, up to N -/
def In2W (J1 : It) (g1 : TG) (tt1 : TT) (te : TE) (vs1 : List Nat) (σ : L2.St) (D : Addr) (N : Hp → Prop) (H0 : Hp) : Prop :=
  ∃ W1 : Nat → Nat → Hp → Prop, (∃ m, W1 0 m H0) ∧ ∀ j k H, W1 j k H →
    (J1.stop j H ∧ N H) ∨ (J1.go j H ∧ ∃ N1 : Hp → Prop, (∀ H', N1 H' → ∃ k', k' < k ∧ W1 (j + 1) k' H') ∧
      ∀ x H', J1.yld j H x H' → g1 x (wipe σ vs1) H' fun σ3 H5 => wipe σ3 vs1 = wipe σ vs1 ∧ tt1 σ3 H5 fun b H6 =>
        if b = true then te σ3 H6 fun y H7 => ∃ acc, H7 D = some (.lst acc) ∧ acc.length < sizeLine ∧ N1 (upd H7 D (.lst (acc ++ [y]))) else N1 H6)
/-- the turns of the first -/
def Lc2W (J : It) (g : TG) (tt : TT) (wi1 : TI) (g1 : TG) (tt1 : TT) (te : TE) (vs vs1 : List Nat) (σ : L2.St) (D : Addr) (Q : VK) (H0 : Hp) : Prop :=
  ∃ W : Nat → Nat → Hp → Prop, (∃ m, W 0 m H0) ∧ ∀ i m H, W i m H →
    (J.stop i H ∧ Q (.ref D) H) ∨ (J.go i H ∧ ∃ N : Hp → Prop, (∀ H', N H' → ∃ m', m' < m ∧ W (i + 1) m' H') ∧
      ∀ x H', J.yld i H x H' → g x (wipe σ vs) H' fun σ2 H2 => wipe σ2 vs = wipe σ vs ∧ tt σ2 H2 fun b H3 =>
        if b = true then wi1 σ2 H3 fun J1 H4 => In2W J1 g1 tt1 te vs1 σ2 D N H4 else N H3)
theorem tLc2_eq : tLc2 wi g tt wi1 g1 tt1 te vs vs1 σ H Q = wi σ H fun J H1 => ∀ D, H1 D = none → Lc2W J g tt wi1 g1 tt1 te vs vs1 σ D Q (upd H1 D (.lst [])) := rfl
theorem In2W.by (n : Nat) (I : Nat → Hp → Prop) (h0 : I 0 H0)
    (hs : ∀ j G, j < n → I j G → J1.go j G ∧ ∀ x G', J1.yld j G x G' → g1 x (wipe σ vs1) G' fun σ3 H5 => wipe σ3 vs1 = wipe σ vs1 ∧ tt1 σ3 H5 fun b H6 =>
      if b = true then te σ3 H6 fun y H7 => ∃ acc, H7 D = some (.lst acc) ∧ acc.length < sizeLine ∧ I (j + 1) (upd H7 D (.lst (acc ++ [y]))) else I (j + 1) H6)
    (hd : ∀ G, I n G → J1.stop n G ∧ N G) : In2W J1 g1 tt1 te vs1 σ D N H0 := by
  refine ⟨fun i m G => m + i = n ∧ I i G, ⟨n, rfl, h0⟩, ?_⟩
  rintro i m G ⟨hm, hi⟩
  rcases Nat.lt_or_ge i n with hlt | hge
  · obtain ⟨a, b⟩ := hs i G hlt hi
    exact .inr ⟨a, I (i + 1), fun G' z => ⟨m - 1, by omega, by omega, z⟩, b⟩
  · obtain rfl : i = n := by omega
    exact .inl (hd G hi)
theorem Lc2W.by (n : Nat) (I : Nat → Hp → Prop) (h0 : I 0 H0)
    (hs : ∀ i G, i < n → I i G → J.go i G ∧ ∀ x G', J.yld i G x G' → g x (wipe σ vs) G' fun σ2 H2 => wipe σ2 vs = wipe σ vs ∧ tt σ2 H2 fun b H3 =>
      if b = true then wi1 σ2 H3 fun J1 H4 => In2W J1 g1 tt1 te vs1 σ2 D (I (i + 1)) H4 else I (i + 1) H3)
    (hd : ∀ G, I n G → J.stop n G ∧ Q (.ref D) G) : Lc2W J g tt wi1 g1 tt1 te vs vs1 σ D Q H0 := by
  refine ⟨fun i m G => m + i = n ∧ I i G, ⟨n, rfl, h0⟩, ?_⟩
  rintro i m G ⟨hm, hi⟩
  rcases Nat.lt_or_ge i n with hlt | hge
  · obtain ⟨a, b⟩ := hs i G hlt hi
    exact .inr ⟨a, I (i + 1), fun G' z => ⟨m - 1, by omega, by omega, z⟩, b⟩
  · obtain rfl : i = n := by omega
    exact .inl (hd G hi)
theorem In2W.tup {K : PySem.W.Frag} {a : Addr} (xs : List V) (I : Nat → Hp → Prop) (h0 : I 0 H0) (hl : ∀ i G, I i G → SqT K G a xs)
    (hs : ∀ j x G, xs[j]? = some x → I j G → g1 x (wipe σ vs1) G fun σ3 H5 => wipe σ3 vs1 = wipe σ vs1 ∧ tt1 σ3 H5 fun b H6 =>
      if b = true then te σ3 H6 fun y H7 => ∃ acc, H7 D = some (.lst acc) ∧ acc.length < sizeLine ∧ I (j + 1) (upd H7 D (.lst (acc ++ [y]))) else I (j + 1) H6)
    (hd : ∀ G, I xs.length G → N G) : In2W (Itt K a) g1 tt1 te vs1 σ D N H0 := by
  refine In2W.by xs.length I h0 ?_ fun G h => ⟨⟨xs, hl _ _ h, Nat.le_refl _⟩, hd G h⟩
  intro i G hi h
  have q := hl i G h
  have hx : xs[i]? = some xs[i] := List.getElem?_eq_getElem hi
  refine ⟨⟨xs, xs[i], q, hx⟩, ?_⟩
  rintro x G' ⟨rfl, hx'⟩
  exact hs i x _ (hx' xs q) h
theorem Lc2W.tup {K : PySem.W.Frag} {a : Addr} (xs : List V) (I : Nat → Hp → Prop) (h0 : I 0 H0) (hl : ∀ i G, I i G → SqT K G a xs)
    (hs : ∀ i x G, xs[i]? = some x → I i G → g x (wipe σ vs) G fun σ2 H2 => wipe σ2 vs = wipe σ vs ∧ tt σ2 H2 fun b H3 =>
      if b = true then wi1 σ2 H3 fun J1 H4 => In2W J1 g1 tt1 te vs1 σ2 D (I (i + 1)) H4 else I (i + 1) H3)
    (hd : ∀ G, I xs.length G → Q (.ref D) G) : Lc2W (Itt K a) g tt wi1 g1 tt1 te vs vs1 σ D Q H0 := by
  refine Lc2W.by xs.length I h0 ?_ fun G h => ⟨⟨xs, hl _ _ h, Nat.le_refl _⟩, hd G h⟩
  intro i G hi h
  have q := hl i G h
  have hx : xs[i]? = some xs[i] := List.getElem?_eq_getElem hi
  refine ⟨⟨xs, xs[i], q, hx⟩, ?_⟩
  rintro x G' ⟨rfl, hx'⟩
  exact hs i x _ (hx' xs q) h
end
end Lay
/-! match on pairs; data compared with an int, with nothing; is True; a tuple turned about. -/
namespace PySem.SeqAt
open AutoSeq1 (wpAny_loadPart')
open MeetsSeq MeetsSeq2 MeetsSeq3
theorem dict_ne_declines_int (l : Addr) (es : Array DictEntry) (n : Nat) (dd : Option Addr) (sl : Array (Option Value)) (b : Int) (u : Tok) :
    Meets (Builtin.«dict.__ne__» ⟨[.ref l, .int b u], []⟩) (fun _ R s => s.heap.get? l = some { cls := .type "dict", dict := dd, data := .dict es n, slots := sl } ∧ R (.ok (.ret .notImplemented)) s) :=
  .of_wp fun prog w A R s h => by
    obtain ⟨hp, g, d, tk, os⟩ := s
    obtain ⟨hl, h⟩ := h
    have f1 := F.sub_int_dict
    wp_walk using wpAny_loadPart' hl
    exact ⟨_, rfl, h⟩
theorem int_ne_declines_dict (b : Int) (u : Tok) (l : Addr) (es : Array DictEntry) (n : Nat) (dd : Option Addr) (sl : Array (Option Value)) :
    Meets (Builtin.«int.__ne__» ⟨[.int b u, .ref l], []⟩) (fun _ R s => s.heap.get? l = some { cls := .type "dict", dict := dd, data := .dict es n, slots := sl } ∧ R (.ok (.ret .notImplemented)) s) :=
  .of_wp fun prog w A R s h => by
    obtain ⟨hp, g, d, tk, os⟩ := s
    obtain ⟨hl, h⟩ := h
    wp_walk using wpAny_loadPart' hl, wpAny_load hl
    exact ⟨_, rfl, h⟩
theorem RcNeAt.dict_int {A : Around} {s : Shared} {l : Addr} {o : Obj} {es : Array DictEntry} {n : Nat} (b : Int) (u : Tok) (ho : s.heap.get? l = some o) (hc : o.cls = .type "dict") (hd : o.data = .dict es n) (hu : A.units < cLine) : RcNeAt A s (.ref l) (.int b u) true := fun prog w E Q h => by
  obtain ⟨cls, dd, data, sl⟩ := o
  simp only at hc hd
  subst hc hd
  exact rc_ne_decline_or (k := false) ⟨_, ho, rfl⟩ (typeIs_int s b u) (by decide) F.sub_int_dict F.slot_dict_ne F.slot_int_ne_refl
    (fun _ hq => call_meets F.slot_dict_ne ⟨_, ho, rfl⟩ F.entry_dict_ne (F.args_dict_ne_2 _ _) (dict_ne_declines_int l es n dd sl b u) ⟨ho, hq⟩)
    (fun _ hq => call_meets F.slot_int_ne_refl (typeIs_int s b u) F.entry_int_ne (F.args_int_ne_2 _ _) (int_ne_declines_dict b u l es n dd sl) ⟨ho, hq⟩)
    (fun _ hq => wpAny_of_eq (rfl : isSame (.ref l) (.int b u) = pure false) hq) (.inr hu) h
end PySem.SeqAt
namespace Lay
open PySem PySem.Spec PyProof.Rows L2
section
variable {X : Cx} {pins : List (Addr × Obj)} {σ : L2.St} {H : Hp} {s : Shared} {v : V} {u : Value}
/-! ### data != an int -/
def rNeI (K : PySem.W.Frag) : R2 := fun x y H Q => ∃ d k, Dx K H x d ∧ y = .int k ∧ Q (.bl (!PyData.eqv d (.int k))) H
theorem op_neI (hu : X.A.units + 64 < cLine) : OpR X (compareOp .NotEq) (rNeI X.K) := by
  intro pins s σ H x y v u Q I rx ry h
  obtain ⟨d, k, hd, rfl, q⟩ := h
  obtain ⟨t, rfl⟩ := ry
  have hu0 : X.A.units < cLine := by omega
  have fin : ∀ b : Bool, b = (!PyData.eqv d (.int k)) → SeqAt.RcNeAt X.A s v (.int k t) b → wpAny (model X.prog X.w) X.A (compareOp .NotEq v (.int k t)) (EP X pins σ Q) X.xe s := by
    intro b e r
    subst e
    exact r X.prog X.w X.xe _ ⟨.bl _, H, I, rfl, q⟩
  cases hd with
  | non => cases rx; exact fin _ rfl (SeqAt.RcNeAt.none_int k t)
  | bl b => cases rx; exact fin _ rfl (SeqAt.RcNeAt.bool_int b k t)
  | int i => obtain ⟨t2, rfl⟩ := rx; exact fin _ rfl (SeqAt.RcNeAt.int_int i t2 k t)
  | str z => obtain ⟨t2, rfl⟩ := rx; exact fin _ rfl (SeqAt.RcNeAt.str_int z t2 k t)
  | lst hs _ =>
    cases rx
    obtain ⟨its, rv, p, _⟩ := I.list hs
    exact fin _ rfl (SeqAt.RcNeAt.list_int k t p.isList hu0)
  | tup hs _ =>
    cases rx
    obtain ⟨its, rv, p, _⟩ := I.tuple hs
    exact fin _ rfl (SeqAt.RcNeAt.tuple_int k t p hu0)
  | dct ha _ _ =>
    cases rx
    obtain ⟨_, _, _, _, o, en, ep, ho, hx, hdt, _⟩ := dk_of I.hok ha
    exact fin _ rfl (SeqAt.RcNeAt.dict_int k t ho hx.1 hdt hu0)
theorem neIK (K : PySem.W.Frag) (hu : X.A.units + 64 < cLine) (h : X.K = K := by rfl) : OpR X (compareOp .NotEq) (rNeI K) := h ▸ op_neI hu

/-! ### == () and == [] -/
def rEqE (K : PySem.W.Frag) : R2 := fun x y H Q => ∃ a b xs, x = .ref a ∧ y = .ref b ∧ ((SqT K H a xs ∧ SqT K H b []) ∨ (SqL K H a xs ∧ SqL K H b [])) ∧ Q (.bl xs.isEmpty) H
def rNeE (K : PySem.W.Frag) : R2 := fun x y H Q => ∃ a b xs, x = .ref a ∧ y = .ref b ∧ ((SqT K H a xs ∧ SqT K H b []) ∨ (SqL K H a xs ∧ SqL K H b [])) ∧ Q (.bl (!xs.isEmpty)) H
theorem vals_nil {us : List Value} (r : Vals [] us) : us = [] := by cases r; rfl
theorem size_beq {xs : List V} {its : List Value} (r : Vals xs its) : (its.toArray.size == (([] : List Value).toArray).size) = xs.isEmpty := by
  have := r.length
  cases xs with
  | nil => rw [vals_nil r]; rfl
  | cons x r2 => cases its with
    | nil => cases this
    | cons y r3 => rfl
theorem op_eqE (hu : X.A.units + 64 < cLine) : OpR X (compareOp .Eq) (rEqE X.K) := by
  intro pins s σ H x y v u Q I rx ry h
  obtain ⟨a, b, xs, rfl, rfl, h, q⟩ := h
  cases rx
  cases ry
  have hu0 : X.A.units < cLine := by omega
  rcases h with ⟨h1, h2⟩ | ⟨h1, h2⟩
  · obtain ⟨its, rv, p, _⟩ := I.tuple h1
    obtain ⟨its2, rv2, p2, _⟩ := I.tuple h2
    rw [vals_nil rv2] at p2
    refine SeqAt.RcAt.tuples (e := fun _ => true) p p2 hu0 (fun j _ h2 => absurd h2 (Nat.not_lt_zero _)) X.prog X.w X.xe _ ?_
    rw [size_beq rv]
    refine ⟨.bl _, H, I, rfl, ?_⟩
    have : (List.range (min its.toArray.size (([] : List Value).toArray).size)) = [] := by simp
    rw [this]
    exact q
  · obtain ⟨its, rv, p, _⟩ := I.list h1
    obtain ⟨its2, rv2, p2, _⟩ := I.list h2
    rw [vals_nil rv2] at p2
    have e := size_beq rv
    cases xs with
    | nil =>
      rw [vals_nil rv] at p
      exact SeqAt.RcAt.lists (e := fun _ => true) p.isList p2.isList rfl hu0 (fun j h1 _ => absurd h1 (Nat.not_lt_zero _)) X.prog X.w X.xe _ ⟨.bl _, H, I, rfl, q⟩
    | cons x r =>
      exact SeqAt.RcAt.lists_lengths p.isList p2.isList (by unfold bne; rw [e]; rfl) hu0 X.prog X.w X.xe _ ⟨.bl _, H, I, rfl, q⟩
theorem op_neE (hu : X.A.units + 64 < cLine) : OpR X (compareOp .NotEq) (rNeE X.K) := by
  intro pins s σ H x y v u Q I rx ry h
  obtain ⟨a, b, xs, rfl, rfl, h, q⟩ := h
  cases rx
  cases ry
  have hu0 : X.A.units < cLine := by omega
  rcases h with ⟨h1, h2⟩ | ⟨h1, h2⟩
  · obtain ⟨its, rv, p, _⟩ := I.tuple h1
    obtain ⟨its2, rv2, p2, _⟩ := I.tuple h2
    rw [vals_nil rv2] at p2
    refine SeqAt.RcNeAt.tuples (e := fun _ => true) p p2 hu0 (fun j _ h2 => absurd h2 (Nat.not_lt_zero _)) X.prog X.w X.xe _ ?_
    rw [size_beq rv]
    refine ⟨.bl _, H, I, rfl, ?_⟩
    have : (List.range (min its.toArray.size (([] : List Value).toArray).size)) = [] := by simp
    rw [this]
    exact q
  · obtain ⟨its, rv, p, _⟩ := I.list h1
    obtain ⟨its2, rv2, p2, _⟩ := I.list h2
    rw [vals_nil rv2] at p2
    have e := size_beq rv
    cases xs with
    | nil =>
      rw [vals_nil rv] at p
      exact SeqAt.RcNeAt.lists (e := fun _ => true) p.isList p2.isList rfl hu0 (fun j h1 _ => absurd h1 (Nat.not_lt_zero _)) X.prog X.w X.xe _ ⟨.bl _, H, I, rfl, q⟩
    | cons x r =>
      exact SeqAt.RcNeAt.lists_lengths p.isList p2.isList (by unfold bne; rw [e]; rfl) hu0 X.prog X.w X.xe _ ⟨.bl _, H, I, rfl, q⟩
theorem eqEK (K : PySem.W.Frag) (hu : X.A.units + 64 < cLine) (h : X.K = K := by rfl) : OpR X (compareOp .Eq) (rEqE K) := h ▸ op_eqE hu
theorem neEK (K : PySem.W.Frag) (hu : X.A.units + 64 < cLine) (h : X.K = K := by rfl) : OpR X (compareOp .NotEq) (rNeE K) := h ▸ op_neE hu

/-! ### x is True, x is False: x data -/
def rIsX : R2 := fun x y H Q => ∃ b : Bool, y = .bl b ∧ (x = .non ∨ (∃ c, x = .bl c) ∨ (∃ i, x = .int i) ∨ (∃ z, x = .str z) ∨ ∃ a, x = .ref a) ∧ Q (.bl (decide (x = .bl b))) H
theorem op_isX : OpR X (compareOp .Is) rIsX := by
  intro pins s σ H x y v u Q I rx ry h
  obtain ⟨b, rfl, hx, q⟩ := h
  cases (show u = Value.bool b from ry)
  have no : x ≠ .bl b → plainIs v (.bool b) = true → v ≠ .bool b → wpAny (model X.prog X.w) X.A (compareOp .Is v (.bool b)) (EP X pins σ Q) X.xe s := by
    intro n p ne
    rw [decide_eq_false n] at q
    exact wpAny_is_other p ne ⟨.bl false, H, I, rfl, q⟩
  rcases hx with rfl | ⟨c, rfl⟩ | ⟨i, rfl⟩ | ⟨z, rfl⟩ | ⟨a, rfl⟩
  · cases rx; exact no (by intro z; cases z) rfl (by intro z; cases z)
  · cases (show v = Value.bool c from rx)
    by_cases e : c = b
    · subst e
      exact wpAny_is_self rfl ⟨.bl true, H, I, rfl, by simpa using q⟩
    · exact no (fun z => e (V.bl.inj z)) rfl (fun z => e (Value.bool.inj z))
  · obtain ⟨t, rfl⟩ := rx; exact no (by intro z; cases z) rfl (by intro z; cases z)
  · obtain ⟨t, rfl⟩ := rx; exact no (by intro z; cases z) rfl (by intro z; cases z)
  · cases rx; exact no (by intro z; cases z) rfl (by intro z; cases z)
theorem Dx.plain {K : PySem.W.Frag} {H : Hp} {x : V} {d : PyData} (h : Dx K H x d) : x = .non ∨ (∃ c, x = .bl c) ∨ (∃ i, x = .int i) ∨ (∃ z, x = .str z) ∨ ∃ a, x = .ref a := by
  cases h with
  | non => exact .inl rfl
  | bl b => exact .inr (.inl ⟨_, rfl⟩)
  | int i => exact .inr (.inr (.inl ⟨_, rfl⟩))
  | str z => exact .inr (.inr (.inr (.inl ⟨_, rfl⟩)))
  | lst _ _ => exact .inr (.inr (.inr (.inr ⟨_, rfl⟩)))
  | tup _ _ => exact .inr (.inr (.inr (.inr ⟨_, rfl⟩)))
  | dct _ _ _ => exact .inr (.inr (.inr (.inr ⟨_, rfl⟩)))

/-! ### isinstance of data -/
def tyName : PyData → String
  | .none => "NoneType"
  | .bool _ => "bool"
  | .int _ => "int"
  | .str _ => "str"
  | .list _ => "list"
  | .tuple _ => "tuple"
  | .dict _ => "dict"
theorem Dx.ty {K : PySem.W.Frag} {H : Hp} {x : V} {d : PyData} (h : Dx K H x d) : TyX K H x (.type (tyName d)) := by
  cases h with
  | non => exact .base .non
  | bl b => exact .base (.bl b)
  | int i => exact .base (.int i)
  | str z => exact .base (.str z)
  | lst hs _ =>
    rcases hs with (h | ⟨o, h⟩) | ⟨o, its, n, hk, hc, _⟩
    · exact .base (.lst h)
    · exact .base (.frz h)
    · exact .kList hk hc
  | tup hs _ =>
    rcases hs with (h | ⟨o, h⟩) | ⟨o, its, n, hk, hc, _⟩
    · exact .base (.tup h)
    · exact .fTuple h
    · exact .kTuple hk hc
  | dct ha _ _ => exact .base (.dK ha)
/-- isinstance(x, T), x data, T a built-in class -/
def rIsiX (K : PySem.W.Frag) : List V → Hp → VK → Prop := fun xs H Q => ∃ (x : V) (d : PyData) (T : String) (b : Bool), xs = [x, .ty T] ∧ Dx K H x d ∧ kitB (tyName d) T = some b ∧ Q (.bl b) H
theorem call_isiX : CallR X (.builtin "isinstance") (rIsiX X.K) := by
  intro pins s σ H xs us Q I r h
  obtain ⟨x, d, T, b, rfl, hd, e, q⟩ := h
  exact call_isi pins s σ H _ us Q I r ⟨x, .ty T, .type (tyName d), .type T, b, rfl, .ty T, hd.ty, kit_ty e, q⟩
theorem isiXK (K : PySem.W.Frag) (h : X.K = K := by rfl) : CallR X (.builtin "isinstance") (rIsiX K) := h ▸ call_isiX

/-! ### t[::-1] -/
theorem sliceApplied_rev {prog : Program} {w : World} {A : Around} {E : Value → Shared → Prop} {s : Shared} {sl : Addr} {t : Tok} {n : Nat} {Q : Int × Int × Nat → Shared → Prop} (hs : s.heap.IsSliceOf sl .none .none (.int (-1) t))
    (h : Q ((n : Int) - 1, -1, n) s) : wpAny (model prog w) A (Builtin.Slice.sliceApplied (.ref sl) (pure (n : Int))) Q E s := by
  obtain ⟨os, hos, hcs, hds⟩ := id hs
  unfold Builtin.Slice.sliceApplied Builtin.Slice.sliceFields
  refine wpAny_bind (wpAny_bind (wpAny_field hos hds (x := .none) rfl (wpAny_bind (wpAny_field hos hds (x := .none) rfl (wpAny_bind (wpAny_field hos hds (x := .int (-1) t) rfl (wpAny_pure ?_)))))))
  refine wpAny_bind (HT.slicePart_ (.int (-1) t) ?_)
  show wpAny _ _ (if ((-1 : Int) == 0) = true then _ else _) _ _ s
  rw [if_neg (by decide)]
  refine wpAny_bind (HT.slicePart_ .none (wpAny_bind (HT.slicePart_ .none (wpAny_bind (wpAny_pure ?_)))))
  show wpAny _ _ (match Builtin.Slice.sliceAdjust none none (-1) (n : Int) with | (lo, hi) => pure (lo, (-1 : Int), Builtin.Slice.slicePlaces lo hi (-1))) _ _ s
  have e : Builtin.Slice.sliceAdjust none none (-1) (n : Int) = ((n : Int) - 1, -1) := rfl
  rw [e]
  have e2 : Builtin.Slice.slicePlaces ((n : Int) - 1) (-1) (-1) = n := by
    unfold Builtin.Slice.slicePlaces
    rw [if_neg (by decide)]
    split
    · rw [show -(-1 : Int) = 1 from rfl, Int.ediv_one]; omega
    · show (0 : Int).toNat = n
      have : (0 : Int).toNat = 0 := rfl
      omega
  show wpAny _ _ (pure ((n : Int) - 1, (-1 : Int), Builtin.Slice.slicePlaces ((n : Int) - 1) (-1) (-1))) _ _ s
  rw [e2]
  exact wpAny_pure h
end
end Lay
namespace Lay
open PySem PySem.Spec PyProof.Rows L2
section
variable {prog : Program} {w : World} {A : Around} {E : Value → Shared → Prop} {s : Shared}
theorem pick_rev (its : List Value) : ((List.range its.length).filterMap fun (m : Nat) => its.toArray[(((its.length : Nat) : Int) - 1 + (m : Int) * (-1)).toNat]?) = its.reverse := by
  have e : ∀ m ∈ List.range its.length, its.toArray[(((its.length : Nat) : Int) - 1 + (m : Int) * (-1)).toNat]? = its.reverse[m]? := by
    intro m hm
    have hl : m < its.length := List.mem_range.mp hm
    have h1 : (((its.length : Nat) : Int) - 1 + (m : Int) * (-1)).toNat = its.length - 1 - m := by omega
    rw [h1, List.getElem?_reverse hl]
    simp
  have g : ∀ (l : List Nat) (f k : Nat → Option Value), (∀ m ∈ l, f m = k m) → l.filterMap f = l.filterMap k := by
    intro l f k h
    induction l with
    | nil => rfl
    | cons a r ih =>
      rw [List.filterMap_cons, List.filterMap_cons, h a (List.mem_cons_self ..), ih fun m hm => h m (List.mem_cons_of_mem _ hm)]
  rw [g _ _ _ e]
  have : ∀ (l : List Value), (List.range l.length).filterMap (fun m => l[m]?) = l := by
    intro l
    induction l with
    | nil => rfl
    | cons a r ih =>
      rw [List.length_cons, List.range_succ_eq_map, List.filterMap_cons]
      simp only [List.getElem?_cons_zero]
      rw [List.filterMap_map]
      congr 1
  have h2 := this its.reverse
  rw [List.length_reverse] at h2
  exact h2
theorem getItem_tuple_rev {t sl : Addr} {its : List Value} {tk : Tok} {Q : Value → Shared → Prop} (ht : IsTup s.heap t its.toArray) (hs : s.heap.IsSliceOf sl .none .none (.int (-1) tk))
    (h : Q (.ref s.heap.objs.size) { s with heap := s.heap.push { cls := .type "tuple", data := .seq its.reverse.toArray } })
    (hsz : its.length ≤ sizeLine) : wpAny (model prog w) A (getItem (.ref t) (.ref sl)) Q E s := by
  have htake : sizeOk (.seq its.reverse.toArray) := by
    show its.reverse.toArray.size ≤ sizeLine
    rw [List.size_toArray, List.length_reverse]
    exact hsz
  obtain ⟨os, hos, hcs, hds⟩ := id hs
  have hTs : s.TypeIs (.ref sl) "slice" := ⟨os, hos, hcs⟩
  unfold getItem
  try with_reducible refine wpAny_holding ?_
  first | refine wpAny_bind (wpAny_pure ?_) | skip
  refine wpAny_bind (wpAny_sequenceKey ht.typeIs (by decide) ?_)
  refine wpAny_bind (wpAny_callSpecial?_slot (name := Str.ofString "__getitem__") ht.typeIs PyProof.Rows.slot_tuple_getitem
    (wpAny_call_entry PyProof.Rows.slot_tuple_getitem ht.typeIs entry_tuple_getitem ?_ (args_tuple_getitem _ _)))
  show wpAny _ _ (Builtin.Tuple.tupleItemsOf (.ref t) >>= _) _ _ s
  refine wpAny_bind (tupleItemsOf_ ht ?_)
  refine wpAny_bind (wpAny_typeOf hTs ?_)
  rw [if_pos (by decide)]
  refine wpAny_bind (sliceApplied_rev (n := its.toArray.size) hs ?_)
  have hno : ¬ ((((its.toArray.size : Nat) : Int) - 1 == 0 && (-1 : Int) == 1 && its.toArray.size == its.toArray.size) = true) := by
    rw [show ((-1 : Int) == 1) = false from rfl, Bool.and_false, Bool.false_and]
    exact Bool.false_ne_true
  show wpAny _ _ (if (((its.toArray.size : Nat) : Int) - 1 == 0 && (-1 : Int) == 1 && its.toArray.size == its.toArray.size) = true then _ else _) _ _ s
  rw [if_neg hno]
  rw [List.size_toArray, pick_rev]
  first
    | exact wpAny_bind (m := Builtin.Tuple.tupleExact _) (wpAny_newObj_type (wpAny_pure ⟨_, rfl, wpAny_pure h⟩) htake)
    | exact wpAny_bind (m := Builtin.Tuple.tupleExact _) (wpAny_newObj_type (wpAny_bind (wpAny_pure (wpAny_pure ⟨_, rfl, wpAny_pure h⟩))) htake)
    | exact wpAny_bind (wpAny_bind (m := Builtin.Tuple.tupleExact _) (wpAny_newObj_type (wpAny_pure (wpAny_pure ⟨_, rfl, wpAny_pure h⟩)) htake))
    | exact wpAny_bind (wpAny_bind (m := Builtin.Tuple.tupleExact _) (wpAny_newObj_type (wpAny_pure ⟨_, rfl, wpAny_pure h⟩) htake))
end
section
variable {X : Cx}
def tRevT (K : PySem.W.Frag) (te : TE) : TE := fun σ H Q => te σ H fun x H1 => ∃ a xs, x = .ref a ∧ SqT K H1 a xs ∧ ∀ p, H1 p = none → Q (.ref p) (upd H1 p (.tup xs.reverse))
theorem pe_revT {e : Expr} {te : TE} {k : Nat} {p1 p2 p3 pos : Pos} (he : PE X e te) : PE X (.Subscript e (.Slice none none (some (.UnaryOp .USub (.Constant (.int 1) k p1) p2)) p3) pos) (tRevT X.K te) := by
  refine ⟨fun pins s σ H Q I h => ?_⟩
  refine Subscript_ (thn (he.run pins s σ H _ I h) fun v s1 ⟨x, H1, I1, r1, q1⟩ => ?_)
  obtain ⟨a, xs, ex, hx, q⟩ := q1
  subst ex
  cases r1
  have hst : PO X (some (.UnaryOp .USub (.Constant (.int 1) k p1) p2)) (tPart (tUn (rU fun i => .int (-i)) (tC (.int 1)))) := po_some (pe_un un_neg pe_int)
  refine wpAny_Slice (thn (po_none.run pins s1 σ H1 (fun o H2 => o = none ∧ H2 = H1) I1 ⟨rfl, rfl⟩) fun vl s2 ⟨l, H2, I2, pl, el, e2⟩ => ?_)
  subst el e2
  refine thn (po_none.run pins s2 σ H2 (fun o H3 => o = none ∧ H3 = H2) I2 ⟨rfl, rfl⟩) fun vu s3 ⟨u, H3, I3, pu, eu, e3⟩ => ?_
  subst eu e3
  refine thn (hst.run pins s3 σ H3 (fun o H4 => o = some (-1) ∧ H4 = H3) I3 ⟨1, rfl, -1, rfl, rfl, rfl⟩) fun vs s4 ⟨o, H4, I4, ps, eo, e4⟩ => ?_
  subst eo e4
  have I5 : Inv X pins σ H4 { s4 with heap := s4.heap.push { cls := .type "slice", data := .fields #[vl, vu, vs] } } := I4.kept (t' := s4.toks) fun b ob q => Heap.get?_push_of_some _ q
  obtain ⟨its, r, ht, hz⟩ := I5.tuple hx
  have hlen := r.length
  cases pl
  cases pu
  obtain ⟨tk, rfl⟩ : ∃ tk, vs = .int (-1) tk := by
    cases ps with
    | int i t => exact ⟨t, rfl⟩
  show wpAny (model X.prog X.w) X.A (subscriptTail e (.Slice none none (some (.UnaryOp .USub (.Constant (.int 1) k p1) p2)) p3) (.ref a) (.ref s4.heap.objs.size)) (EP X pins σ Q) X.xe { s4 with heap := s4.heap.push { cls := .type "slice", data := .fields #[.none, .none, .int (-1) tk] } }
  refine tail_any (ops := [.ref a, .ref s4.heap.objs.size]) ht.typeIs (PyProof.Rows.slot_tuple_getitem.lookup) ?_ (by with_unfolding_all rfl)
  refine getItem_tuple_rev ht (Heap.IsSliceOf.new _ _ _ _) ?_ (by omega)
  refine ⟨.ref _, _, I5.laid (t' := s4.toks) (o := .tup xs.reverse) (fun b ob q => Heap.get?_push_of_some _ q) (Nat.le_refl _) ?_, rfl, q _ (I5.hok.fresh (Nat.le_refl _))⟩
  exact ⟨by rw [List.length_reverse]; exact hz, _, r.reverse, IsTup.new _ _⟩
theorem revTK (K : PySem.W.Frag) {ta : TE} {ex : Expr} (p : PE X ex (tRevT X.K ta)) (h : X.K = K := by rfl) : PE X ex (tRevT K ta) := h ▸ p
end

/-! ### match on a pair whose first part is a pair -/
inductive Parts (K : PySem.W.Frag) (H : Hp) : V → Option (List V) → Prop
  | lst {a : Addr} {xs : List V} : SqL K H a xs → Parts K H (.ref a) (some xs)
  | tup {a : Addr} {xs : List V} : SqT K H a xs → Parts K H (.ref a) (some xs)
  | non : Parts K H .non none
  | bl (b : Bool) : Parts K H (.bl b) none
  | int (i : Int) : Parts K H (.int i) none
  | str (z : Str) : Parts K H (.str z) none
  | dct {a : Addr} {es : List (Key × V)} : H a = some (.dK es) → Parts K H (.ref a) none
section
variable {X : Cx} {pins : List (Addr × Obj)} {σ : L2.St} {H : Hp} {s : Shared} {v : V} {u : Value}
theorem fits63 {n : Nat} (h : n ≤ sizeLine) : (n : Int) < 2 ^ 63 := by rw [sizeLine_eq] at h; omega
theorem pat2 (hh : X.A.handled = none) {p q : Pattern} {pos : Pos} {o : Option (List V)} (I : Inv X pins σ H s) (rv : RelV v u) (pv : Parts X.K H v o) {Q : Option (List (Str × Value)) → Shared → Prop}
    (hwild : (([p, q] : List Pattern).all fun p => p.isWildcard || (p.isStar && p.names.isEmpty)) = false) (hstar : ([p, q] : List Pattern).findIdx? (·.isStar) = none)
    (miss : (∀ xs, o = some xs → xs.length ≠ 2) → ∀ s', Inv X pins σ H s' → Q none s')
    (hit : ∀ x y, o = some [x, y] → ∀ a b s', Inv X pins σ H s' → RelV x a → RelV y b → wpAny (model X.prog X.w) X.A (matchEach [p, q] X.env [a, b]) Q X.xe s') :
    wpAny (model X.prog X.w) X.A (matchPattern (.MatchSequence [p, q] pos) X.env u) Q X.xe s := by
  have flat : ∀ T : String, s.TypeIs u T → flagOfType true (.type T) = pure false → o = none → wpAny (model X.prog X.w) X.A (matchPattern (.MatchSequence [p, q] pos) X.env u) Q X.xe s := by
    intro T hT hf ho
    refine wpAny_matchPattern_Sequence (wpAny_collectionFlag hT hf ?_) hstar hwild
    rw [if_neg (by decide)]
    exact miss (fun xs e => by rw [ho] at e; cases e) s I
  cases pv with
  | non => cases rv; exact flat "NoneType" rfl flag_seq_None rfl
  | bl b => cases rv; exact flat "bool" rfl flag_seq_bool rfl
  | int i => obtain ⟨t, rfl⟩ := rv; exact flat "int" rfl flag_seq_int rfl
  | str z => obtain ⟨t, rfl⟩ := rv; exact flat "str" rfl flag_seq_str rfl
  | dct ha =>
    cases rv
    obtain ⟨_, _, _, _, ob, en, ep, ho, hx, hdt, _⟩ := dk_of I.hok ha
    exact flat "dict" ⟨_, ho, hx.1⟩ flag_seq_dict rfl
  | @lst a xs hs =>
    cases rv
    obtain ⟨its, rv, pl, hz⟩ := I.list hs
    have hl := rv.length
    have hfit : ((its.toArray.size : Nat) : Int) < 2 ^ 63 := by rw [List.size_toArray]; exact fits63 (by omega)
    by_cases hn : xs.length = 2
    · refine matchSeq_list_hit pl.isList hfit (by rw [List.size_toArray, ← hl, hn]; rfl) ?_ hstar hwild
      have e2 : ([p, q] : List Pattern).length = its.toArray.size := by rw [List.size_toArray, ← hl, hn]; rfl
      rw [e2]
      refine PySem.W.kun_itemsOf hh pl.isList fun h' ext => ?_
      have I2 : Inv X pins σ H { s with heap := h', toks := s.toks + 1 + 1 } := I.kept (t' := s.toks + 1 + 1) fun b ob q => ext b ob (Nat.ne_of_lt (Heap.lt_size q)) q
      cases rv with
      | nil => cases hn
      | cons r1 rr => cases rr with
        | nil => cases hn
        | cons r2 rr2 => cases rr2 with
          | nil => exact hit _ _ rfl _ _ _ I2 r1 r2
          | cons _ _ => simp at hn
    · refine matchSeq_list_miss pl.isList hfit (by rw [List.size_toArray, ← hl]; exact hn) ?_ hstar hwild
      exact miss (fun ys e => by cases e; exact hn) _ (I.tok _)
  | @tup a xs hs =>
    cases rv
    obtain ⟨its, rv, pl, hz⟩ := I.tuple hs
    have hl := rv.length
    have hfit : ((its.toArray.size : Nat) : Int) < 2 ^ 63 := by rw [List.size_toArray]; exact fits63 (by omega)
    by_cases hn : xs.length = 2
    · refine matchSeq_tuple_hit pl hfit (by rw [List.size_toArray, ← hl, hn]; rfl) ?_ hstar hwild
      have e2 : ([p, q] : List Pattern).length = its.toArray.size := by rw [List.size_toArray, ← hl, hn]; rfl
      rw [e2]
      refine unpackItems_tuple hh pl fun h' ext => ?_
      have I2 : Inv X pins σ H { s with heap := h', toks := s.toks + 1 + 1 } := I.kept (t' := s.toks + 1 + 1) fun b ob q => ext b ob (Nat.ne_of_lt (Heap.lt_size q)) q
      cases rv with
      | nil => cases hn
      | cons r1 rr => cases rr with
        | nil => cases hn
        | cons r2 rr2 => cases rr2 with
          | nil => exact hit _ _ rfl _ _ _ I2 r1 r2
          | cons _ _ => simp at hn
    · refine matchSeq_tuple_miss pl hfit (by rw [List.size_toArray, ← hl]; exact hn) ?_ hstar hwild
      exact miss (fun ys e => by cases e; exact hn) _ (I.tok _)

/-- what the pattern ((x, y), z) misses -/
def Miss (K : PySem.W.Frag) (H : Hp) (v : V) : Prop := ∃ o, Parts K H v o ∧ ∀ p z, o = some [p, z] → ∃ o', Parts K H p o' ∧ ∀ x y, o' ≠ some [x, y]
def tMatch (K : PySem.W.Frag) (te : TE) (i j k : Nat) (tg : TT) (t1 t2 : TS) : TS := fun D σ H => te σ H fun v H1 =>
  (∃ p x y z, Parts K H1 v (some [p, z]) ∧ Parts K H1 p (some [x, y]) ∧
    tg (((σ.set i (some x)).set j (some y)).set k (some z)) H1 fun c H2 => if c = true then t1 D (((σ.set i (some x)).set j (some y)).set k (some z)) H2 else t2 D (((σ.set i (some x)).set j (some y)).set k (some z)) H2) ∨
  (Miss K H1 v ∧ t2 D σ H1)
theorem two_of {xs : List V} (h : xs.length = 2) : ∃ x y, xs = [x, y] := by
  match xs, h with
  | [x, y], _ => exact ⟨x, y, rfl⟩
theorem Parts.det {K : PySem.W.Frag} (I : Inv X pins σ H s) {o o' : Option (List V)} (h : Parts X.K H v o) (h' : Parts X.K H v o') : o = o' := by
  cases h with
  | non => cases h'; rfl
  | bl b => cases h'; rfl
  | int i => cases h'; rfl
  | str z => cases h'; rfl
  | dct ha =>
    obtain ⟨_, _, _, _, ob, en, ep, ho, hx, hdt, _⟩ := dk_of I.hok ha
    cases h' with
    | dct _ => rfl
    | lst hs =>
      obtain ⟨its, rv, ⟨o2, n, e, c, _, d⟩, hz⟩ := I.list hs
      rw [e] at ho; cases ho
      exact absurd (hx.1.symm.trans c) (by decide)
    | tup hs =>
      obtain ⟨its, rv, ⟨o2, e, c, _⟩, hz⟩ := I.tuple hs
      rw [e] at ho; cases ho
      exact absurd (hx.1.symm.trans c) (by decide)
  | lst hs =>
    obtain ⟨its, rv, ⟨o2, n, e, c, _, d⟩, hz⟩ := I.list hs
    cases h' with
    | dct ha =>
      obtain ⟨_, _, _, _, ob, en, ep, ho, hx, hdt, _⟩ := dk_of I.hok ha
      rw [e] at ho; cases ho
      exact absurd (hx.1.symm.trans c) (by decide)
    | lst hs' => rw [I.list_inj hs hs']
    | tup hs' =>
      obtain ⟨its', rv', ⟨o2', e', c', _⟩, hz'⟩ := I.tuple hs'
      rw [e] at e'; cases e'
      exact absurd (c.symm.trans c') (by decide)
  | tup hs =>
    obtain ⟨its, rv, ⟨o2, e, c, _⟩, hz⟩ := I.tuple hs
    cases h' with
    | dct ha =>
      obtain ⟨_, _, _, _, ob, en, ep, ho, hx, hdt, _⟩ := dk_of I.hok ha
      rw [e] at ho; cases ho
      exact absurd (hx.1.symm.trans c) (by decide)
    | tup hs' => rw [I.tuple_inj hs hs']
    | lst hs' =>
      obtain ⟨its', rv', ⟨o2', n', e', c', _⟩, hz'⟩ := I.list hs'
      rw [e] at e'; cases e'
      exact absurd (c.symm.trans c') (by decide)
end
section
variable {X : Cx}
theorem ps_match {e g : Expr} {b1 b2 : List Stmt} {x y z : Str} {i j k : Nat} {te : TE} {tg : TT} {t1 t2 : TS} {p1 p2 p3 p4 p5 p6 pos : Pos}
    (hc : X.calm = true) (hN : X.N.Nodup) (he : PE X e te)
    (hi : X.N[i]? = some x) (hj : X.N[j]? = some y) (hk : X.N[k]? = some z) (lx : Loc X.env.scope x) (ly : Loc X.env.scope y) (lz : Loc X.env.scope z)
    (hg : PT X g tg) (h1 : PSs X b1 t1) (h2 : PSs X b2 t2)
    (fx : X.fn x = true ∨ X.env.scope.names.lookup x = some .local := by first | exact .inl rfl | exact .inr rfl | assumption)
    (fy : X.fn y = true ∨ X.env.scope.names.lookup y = some .local := by first | exact .inl rfl | exact .inr rfl | assumption)
    (fz : X.fn z = true ∨ X.env.scope.names.lookup z = some .local := by first | exact .inl rfl | exact .inr rfl | assumption) :
    PS X (.Match e [⟨.MatchSequence [.MatchSequence [.MatchAs none (some x) p1, .MatchAs none (some y) p2] p3, .MatchAs none (some z) p4] p5, some g, b1⟩, ⟨.MatchAs none none p6, none, b2⟩] pos) (tMatch X.K te i j k tg t1 t2) := by
  refine ⟨fun pins s σ H D I h => ?_⟩
  refine wpAny_Match (thn (he.run pins s σ H _ I h) ?_)
  rintro u s1 ⟨v, H1, I1, rv, q⟩
  have hh := I1.ok.hd hc
  have last : ∀ (σ' : L2.St) (s' : Shared) (first : Bool) (H' : Hp), Inv X pins σ' H' s' → t2 D σ' H' → wpAny (model X.prog X.w) X.A (matchCases [⟨.MatchAs none none p6, none, b2⟩] X.env u first) (SP X pins D) X.xe s' := by
    intro σ' s' first H' I' q'
    refine wpAny_matchCases_cons (wpAny_matchPattern_Capture ?_)
    exact wpAny_assignInOrder_none (h2.run pins s' σ' H' D I' q')
  refine wpAny_matchCases_cons ?_
  rcases q with ⟨p, x0, y0, z0, hv, hp, q⟩ | ⟨⟨o, ho, mi⟩, q⟩
  · refine pat2 hh I1 rv hv rfl rfl (fun n => absurd rfl (n _ rfl)) ?_
    intro x' y' e a b s2 I2 r1 r2
    injection e with e
    injection e with e1 e
    injection e with e2 _
    subst e1 e2
    refine wpAny_matchEach_cons ?_
    refine pat2 hh I2 r1 hp rfl rfl (fun n => absurd rfl (n _ rfl)) ?_
    intro x'' y'' e a2 b2' s3 I3 r3 r4
    injection e with e
    injection e with e1 e
    injection e with e2 _
    subst e1 e2
    refine wpAny_matchEach_cons (wpAny_matchPattern_Capture (wpAny_matchEach_cons (wpAny_matchPattern_Capture (wpAny_matchEach_nil ?_))))
    refine wpAny_matchEach_cons (wpAny_matchPattern_Capture (wpAny_matchEach_nil ?_))
    show wpAny _ _ (assignInOrder [bindName X.env x, bindName X.env y, bindName X.env z] [a2, b2', b]) _ _ _
    refine wpAny_assignInOrder_more (wpAny_bindName (store_ok I3 hN hi lx r3 (fun s4 I4 => ?_) fx))
    refine wpAny_assignInOrder_more (wpAny_bindName (store_ok I4 hN hj ly r4 (fun s5 I5 => ?_) fy))
    refine wpAny_assignInOrder_more (wpAny_bindName (store_ok I5 hN hk lz r2 (fun s6 I6 => ?_) fz))
    refine wpAny_assignInOrder_none (thn (hg.run pins s6 _ _ _ I6 q) ?_)
    rintro c s7 ⟨H7, I7, q7⟩
    cases c with
    | true => exact h1.run pins s7 _ H7 D I7 q7
    | false => exact last _ s7 false H7 I7 q7
  · refine pat2 hh I1 rv ho rfl rfl (fun _ s2 I2 => last _ s2 false _ I2 q) ?_
    intro x' y' e a b s2 I2 r1 r2
    obtain ⟨o', ho', mi'⟩ := mi _ _ e
    refine wpAny_matchEach_cons ?_
    refine pat2 hh I2 r1 ho' rfl rfl (fun _ s3 I3 => last _ s3 false _ I3 q) ?_
    intro x'' y'' e' 
    exact absurd e' (mi' _ _)
theorem matchK (K : PySem.W.Frag) {te : TE} {i j k : Nat} {tg : TT} {t1 t2 : TS} {st : Stmt} (p : PS X st (tMatch X.K te i j k tg t1 t2)) (h : X.K = K := by rfl) : PS X st (tMatch K te i j k tg t1 t2) := h ▸ p
end
end Lay
namespace PySem.SeqAt
theorem gives_lt_bool_int (p : Bool) (b : Int) (u : Tok) : Gives (Builtin.«int.__lt__» ⟨[.bool p, .int b u], []⟩) (.val (Value.bool ((fun x1 x2 => decide (x1 < x2)) (if p = true then (1 : Int) else 0) b))) :=
  .of_wp fun M A E s Q h => by obtain ⟨hp, g, d, tk, os⟩ := s; wp_walk; exact ⟨_, rfl, h⟩
theorem gives_le_bool_int (p : Bool) (b : Int) (u : Tok) : Gives (Builtin.«int.__le__» ⟨[.bool p, .int b u], []⟩) (.val (Value.bool ((fun x1 x2 => decide (x1 ≤ x2)) (if p = true then (1 : Int) else 0) b))) :=
  .of_wp fun M A E s Q h => by obtain ⟨hp, g, d, tk, os⟩ := s; wp_walk; exact ⟨_, rfl, h⟩
end PySem.SeqAt
namespace Lay
open PySem PySem.Spec PyProof.Rows L2
section
variable {X : Cx}
def numV : V → Option Int
  | .int i => some i
  | .bl b => some (if b = true then 1 else 0)
  | _ => none
def rNum (f : Int → Int → Bool) : R2 := fun x y H Q => ∃ i j, numV x = some i ∧ y = .int j ∧ Q (.bl (f i j)) H
theorem op_ltN : OpR X (compareOp .Lt) (rNum fun i j => decide (i < j)) := by
  intro pins s σ H x y v u Q I rx ry h
  obtain ⟨i, j, hx, rfl, q⟩ := h
  obtain ⟨t, rfl⟩ := ry
  cases x with
  | int a =>
    obtain ⟨t2, rfl⟩ := rx
    cases hx
    exact PyProof.Rows.lt_int ⟨.bl _, H, I, rfl, q⟩
  | bl b =>
    cases rx
    cases hx
    exact SeqAt.rc_left_or (op := .Lt) rfl (typeIs_int s j t) (by decide) F.sub_int_bool F.slot_bool_lt
      (call_gives F.slot_bool_lt rfl F.entry_int_lt (F.args_int_lt_2 _ _) (SeqAt.gives_lt_bool_int b j t) ⟨nofun, ⟨.bl _, H, I, rfl, q⟩⟩) (.inl rfl)
  | _ => cases hx
theorem op_leN : OpR X (compareOp .LtE) (rNum fun i j => decide (i ≤ j)) := by
  intro pins s σ H x y v u Q I rx ry h
  obtain ⟨i, j, hx, rfl, q⟩ := h
  obtain ⟨t, rfl⟩ := ry
  cases x with
  | int a =>
    obtain ⟨t2, rfl⟩ := rx
    cases hx
    exact PyProof.Rows.le_int ⟨.bl _, H, I, rfl, q⟩
  | bl b =>
    cases rx
    cases hx
    exact SeqAt.rc_left_or (op := .LtE) rfl (typeIs_int s j t) (by decide) F.sub_int_bool F.slot_bool_le
      (call_gives F.slot_bool_le rfl F.entry_int_le (F.args_int_le_2 _ _) (SeqAt.gives_le_bool_int b j t) ⟨nofun, ⟨.bl _, H, I, rfl, q⟩⟩) (.inl rfl)
  | _ => cases hx
theorem ltTK (K : PySem.W.Frag) (hu : X.A.units < cLine) (h : X.K = K := by rfl) : OpR X (compareOp .Lt) (rLtT K) := h ▸ op_ltT hu
/-- text * 2 -/
def rRepS : R2 := fun x y H Q => ∃ z : Str, x = .str z ∧ y = .int 2 ∧ z.length ≤ 1000000 ∧ Q (.str (z ++ z)) H
theorem op_repS : OpR X (binaryOp .Mult) rRepS := by
  intro pins s σ H x y v u Q I rx ry h
  obtain ⟨z, rfl, rfl, hl, q⟩ := h
  obtain ⟨t, rfl⟩ := rx
  obtain ⟨t2, rfl⟩ := ry
  have e : (⟨(List.replicate (2 : Int).toNat z.cps).foldl (· ++ ·) #[]⟩ : Str) = z ++ z := by
    show (⟨(#[] ++ z.cps) ++ z.cps⟩ : Str) = ⟨z.cps ++ z.cps⟩
    rw [Array.empty_append]
  have small : Builtin.Str.tooLong (z.length * (2 : Int).toNat) = false := by
    unfold Builtin.Str.tooLong
    rw [sizeLine_eq]
    simp
    omega
  refine P.mul_str (by decide) (fun _ _ => ?_) (fun _ _ => small) ?_
  · have : ((2 : Int) ^ 63 - 1) / 2 = 4611686018427387903 := by decide +kernel
    rw [this]
    omega
  · rw [if_neg (by decide)]
    by_cases hz : ((2 : Int) == 1 || z.length == 0) = true
    · rw [if_pos hz]
      have h0 : z.length = 0 := by simpa using hz
      have : z ++ z = z := by
        have hc : z.cps = #[] := Array.eq_empty_of_size_eq_zero h0
        show (⟨z.cps ++ z.cps⟩ : Str) = z
        rw [hc]
        cases z
        simp only at hc
        subst hc
        rfl
      rw [this] at q
      exact ⟨.str _, H, I, ⟨t, rfl⟩, q⟩
    · rw [if_neg hz, e]
      refine ⟨?_, ⟨.str _, H, I.tok _, ⟨_, rfl⟩, q⟩⟩
      rw [Str.length_append, sizeLine_eq]
      omega
end
end Lay
namespace Lay
open PySem PySem.Spec PyProof.Rows L2
theorem sameT {K : PySem.W.Frag} {F G : Hp} {a : Addr} {xs : List V} (e : Same F G) (h : SqT K F a xs) : SqT K G a xs := by
  rcases h with h | h
  · rcases h with h | ⟨o, h⟩
    · exact .inl (.inl (e _ _ h))
    · exact .inl (.inr ⟨o, e _ _ h⟩)
  · exact .inr h
mutual
theorem Dx.sub {K : PySem.W.Frag} {F G : Hp} (s : Same F G) : ∀ {v : V} {d : PyData}, Dx K F v d → Dx K G v d
  | _, _, .non => .non
  | _, _, .bl b => .bl b
  | _, _, .int i => .int i
  | _, _, .str x => .str x
  | _, _, .lst h a => .lst (s.seq h) (DxAll.sub s a)
  | _, _, .tup h a => .tup (sameT s h) (DxAll.sub s a)
  | _, _, .dct h e a => .dct (s _ _ h) e (DxAll.sub s a)
theorem DxAll.sub {K : PySem.W.Frag} {F G : Hp} (s : Same F G) : ∀ {vs : List V} {ds : List PyData}, DxAll K F vs ds → DxAll K G vs ds
  | _, _, .nil => .nil
  | _, _, .cons h r => .cons (Dx.sub s h) (DxAll.sub s r)
end
theorem DxAll.snoc {K : PySem.W.Frag} {F : Hp} {v : V} {d : PyData} (h : Dx K F v d) : ∀ {vs : List V} {ds : List PyData}, DxAll K F vs ds → DxAll K F (vs ++ [v]) (ds ++ [d])
  | _, _, .nil => .cons h .nil
  | _, _, .cons a r => .cons a (r.snoc h)
theorem DxAll.len {K : PySem.W.Frag} {F : Hp} : ∀ {vs : List V} {ds : List PyData}, DxAll K F vs ds → vs.length = ds.length
  | _, _, .nil => rfl
  | _, _, .cons a r => by simp [r.len]
/-- what is new in H' -/
def new (H H' : Hp) : Hp := fun b => if H b = none then H' b else none
theorem new_sub (H H' : Hp) : Same (new H H') H' := by
  intro b o e
  unfold new at e
  split at e
  · exact e
  · cases e
theorem text_le : ∀ (ts : List Str) (k : Nat) (acc : Str), (textFrom k acc ts).length ≤ acc.length + piled ts
  | [], k, acc => by simp [textFrom, piled_nil]
  | t :: r, k, acc => by
    have ih := text_le r (k + 1) (acc ++ (if k > 0 then ", " else "" : String) ++ t)
    have e : (acc ++ (if k > 0 then ", " else "" : String) ++ t).length ≤ acc.length + 2 + t.length := by
      rw [strLen_append, strLen_append]
      split
      · exact Nat.le_refl _
      · show acc.length + 0 + t.length ≤ _
        omega
    rw [piled_cons]
    show (textFrom (k + 1) _ r).length ≤ _
    omega
theorem list_le (ts : List Str) : (listText ts).length ≤ piled ts + 2 := by
  unfold listText
  rw [strLen_append]
  have := text_le ts 0 "["
  have e : ("[" : Str).length = 1 := by decide +kernel
  have e2 : ("]" : Str).length = 1 := by decide +kernel
  omega
theorem join_le (ts : List Str) : (Str.join ", " ts).length ≤ piled ts := by
  cases ts with
  | nil => exact Nat.le_of_eq (by decide +kernel)
  | cons a r =>
    have := join_length_add (a :: r) (by simp)
    omega
theorem tuple_le (ts : List Str) : (tupleText ts).length ≤ piled ts + 3 := by
  unfold tupleText
  rw [strLen_append, strLen_append]
  have := join_le ts
  have e : ("(" : Str).length = 1 := by decide +kernel
  have e2 : (((if ts.length == 1 then ",)" else ")" : String)) : Str).length ≤ 2 := by
    split
    · exact Nat.le_of_eq (by decide +kernel)
    · exact Nat.le_trans (Nat.le_of_eq (show (")" : Str).length = 1 by decide +kernel)) (by decide)
  omega
theorem dict_le (ts : List Str) : (dictText ts).length ≤ piled ts + 2 := by
  unfold dictText
  rw [strLen_append, strLen_append]
  have := join_le ts
  have e : ("{" : Str).length = 1 := by decide +kernel
  have e2 : ("}" : Str).length = 1 := by decide +kernel
  omega
/-- data that is small: it can be told -/
structure Sm (n b : Nat) (d : PyData) : Prop where
  sh : d.showable = true
  dp : d.depth ≤ n
  ln : d.shown.length ≤ b
theorem Sm.all {n b : Nat} : ∀ {ds : List PyData}, (∀ d ∈ ds, Sm n b d) →
    PyData.showableAll ds = true ∧ PyData.depthAll ds ≤ n ∧ piled (PyData.shownAll ds) ≤ ds.length * (b + 2)
  | [], _ => ⟨by simp [PyData.showableAll], by simp [PyData.depthAll], by simp [PyData.shownAll, piled_nil]⟩
  | d :: r, h => by
    obtain ⟨a1, a2, a3⟩ := Sm.all (ds := r) (fun x hx => h x (List.mem_cons_of_mem _ hx))
    obtain ⟨h1, h2, h3⟩ := h d (List.mem_cons_self ..)
    refine ⟨by simp [PyData.showableAll, h1, a1], by simp only [PyData.depthAll]; omega, ?_⟩
    simp only [PyData.shownAll, piled_cons, List.length_cons]
    rw [Nat.add_mul]
    omega
theorem Sm.list {n b m c : Nat} {ds : List PyData} (h : ∀ d ∈ ds, Sm n b d) (hm : ds.length ≤ m) (hc : m * (b + 2) + 2 ≤ c) : Sm (n + 1) c (.list ds) := by
  obtain ⟨a1, a2, a3⟩ := Sm.all h
  have := list_le (PyData.shownAll ds)
  have := Nat.mul_le_mul_right (b + 2) hm
  refine ⟨by simp [PyData.showable, a1], by simp only [PyData.depth]; omega, ?_⟩
  simp only [PyData.shown]
  omega
theorem Sm.tuple {n b m c : Nat} {ds : List PyData} (h : ∀ d ∈ ds, Sm n b d) (hm : ds.length ≤ m) (hc : m * (b + 2) + 3 ≤ c) : Sm (n + 1) c (.tuple ds) := by
  obtain ⟨a1, a2, a3⟩ := Sm.all h
  have := tuple_le (PyData.shownAll ds)
  have := Nat.mul_le_mul_right (b + 2) hm
  refine ⟨by simp [PyData.showable, a1], by simp only [PyData.depth]; omega, ?_⟩
  simp only [PyData.shown]
  omega
theorem Sm.mono {n b n' b' : Nat} {d : PyData} (h : Sm n b d) (hn : n ≤ n') (hb : b ≤ b') : Sm n' b' d := ⟨h.sh, Nat.le_trans h.dp hn, Nat.le_trans h.ln hb⟩
/-- {k: x, i: None} -/
theorem Sm.dict {n b c : Nat} {x : PyData} {k i : PyData} (h : Sm n b x) (hk : Sm 0 3 k) (hi : Sm 0 3 i) (hc : b + 30 ≤ c) : Sm (n + 1) c (.dict [(k, x), (i, .none)]) := by
  obtain ⟨h1, h2, h3⟩ := h
  obtain ⟨k1, k2, k3⟩ := hk
  obtain ⟨i1, i2, i3⟩ := hi
  refine ⟨by simp [PyData.showable, PyData.showableKv, h1, k1, i1], ?_, ?_⟩
  · simp only [PyData.depth, PyData.depthKv]
    omega
  · simp only [PyData.shown, PyData.shownKv]
    have := dict_le [k.shown ++ ": " ++ x.shown, i.shown ++ ": " ++ ("None" : Str)]
    simp only [piled_cons, piled_nil, strLen_append] at this
    have e1 : (": " : Str).length = 2 := by decide +kernel
    have e2 : ("None" : Str).length = 4 := by decide +kernel
    omega
end Lay
namespace M02
open PySem PySem.Spec PyProof.Rows L2 Lay
/-! ### what is a cell, a content, a name, a change -/
def isInt : PyData → Bool
  | .int _ => true
  | _ => false
def isPair : PyData → Bool
  | .tuple [_, _] => true
  | _ => false
def isCell : PyData → Bool
  | .tuple [.int a, .int b] => decide (0 ≤ a) && decide (0 ≤ b)
  | _ => false
def isWrite : PyData → Bool
  | .tuple [c, v] => isCell c && isInt v
  | _ => false
/-- the content goes on, behind the cell (b, p) -/
def goesOn : Int → Int → List PyData → Bool
  | _, _, [] => true
  | lb, lp, .tuple [.tuple [.int b, .int p], .int _] :: r => decide (0 ≤ b) && decide (0 ≤ p) && (decide (lb < b) || (decide (b = lb) && decide (lp < p))) && goesOn b p r
  | _, _, _ :: _ => false
def isContent : PyData → Bool
  | .tuple ds => goesOn (-1) (-1) ds
  | _ => false
def okName (x : Str) : Bool := decide (1 ≤ x.length) && decide (x.length ≤ 8) && x.cps.toList.all fun c => decide (97 ≤ c) && decide (c ≤ 122)
def isName : PyData → Bool
  | .str x => okName x
  | _ => false
/-- the blocks of a content are all this one -/
def oneBlock (b : Int) : List PyData → Bool
  | [] => true
  | .tuple (.tuple (.int a :: _) :: _) :: r => decide (a = b) && oneBlock b r
  | _ :: r => oneBlock b r
def isChange : PyData → Bool
  | .tuple [n, .tuple (.tuple [.tuple [.int b, p], v] :: r)] => isName n && goesOn (-1) (-1) (.tuple [.tuple [.int b, p], v] :: r) && oneBlock b r
  | _ => false
/-! ### signs below 128 -/
theorem sign_tab : ∀ c, c < 128 → (Unicode.isLower c = (decide (97 ≤ c) && decide (c ≤ 122))) ∧ (Unicode.isAlpha c = ((decide (97 ≤ c) && decide (c ≤ 122)) || (decide (65 ≤ c) && decide (c ≤ 90)))) ∧
    ((Unicode.isUpper c || Unicode.isTitle c) = (decide (65 ≤ c) && decide (c ≤ 90))) ∧ ∃ d, Unicode.upperOf c = [d] ∧ d < 128 := by
  have h : ∀ c : _root_.Fin 128, (Unicode.isLower c.val = (decide (97 ≤ c.val) && decide (c.val ≤ 122))) ∧ (Unicode.isAlpha c.val = ((decide (97 ≤ c.val) && decide (c.val ≤ 122)) || (decide (65 ≤ c.val) && decide (c.val ≤ 90)))) ∧
    ((Unicode.isUpper c.val || Unicode.isTitle c.val) = (decide (65 ≤ c.val) && decide (c.val ≤ 90))) ∧ (Unicode.upperOf c.val).length = 1 ∧ (Unicode.upperOf c.val).all (· < 128) = true := by
    decide +kernel
  intro c hc
  obtain ⟨a, b, d, e, f⟩ := h ⟨c, hc⟩
  refine ⟨a, b, d, ?_⟩
  cases g : Unicode.upperOf c with
  | nil => rw [show Unicode.upperOf (⟨c, hc⟩ : _root_.Fin 128).val = Unicode.upperOf c from rfl, g] at e; cases e
  | cons y r =>
    rw [show Unicode.upperOf (⟨c, hc⟩ : _root_.Fin 128).val = Unicode.upperOf c from rfl, g] at e f
    cases r with
    | cons z r2 => simp at e
    | nil => exact ⟨y, rfl, by simpa using f⟩
theorem name_signs (x : Str) (h : 1 ≤ x.length) : (Txt.isascii x && (Txt.isalpha x && Txt.islower x)) = x.cps.toList.all fun c => decide (97 ≤ c) && decide (c ≤ 122) := by
  have lenx : x.length = x.cps.toList.length := by simp [Str.length]
  unfold Txt.isascii Txt.isalpha Txt.islower
  simp only [← Array.all_toList, ← Array.any_toList]
  rw [show decide (x.length > 0) = true from decide_eq_true (by omega), Bool.true_and]
  rw [lenx] at h
  generalize x.cps.toList = l at h
  by_cases ha : l.all (fun c => decide (c < 128)) = true
  · rw [ha, Bool.true_and]
    have hb : ∀ c ∈ l, c < 128 := fun c hc => of_decide_eq_true (List.all_eq_true.mp ha c hc)
    rw [Bool.eq_iff_iff, Bool.and_eq_true, Bool.and_eq_true, List.all_eq_true, List.all_eq_true, List.any_eq_true, Bool.not_eq_true', List.any_eq_false]
    constructor
    · rintro ⟨h1, _, h3⟩ c hc
      obtain ⟨t1, t2, t3, _⟩ := sign_tab c (hb c hc)
      have a1 := h1 c hc
      have a3 := h3 c hc
      rw [t2] at a1
      rw [t3] at a3
      rcases Bool.or_eq_true .. ▸ a1 with z | z
      · exact z
      · exact absurd z a3
    · intro h1
      refine ⟨?_, ?_, ?_⟩
      · intro c hc
        obtain ⟨t1, t2, t3, _⟩ := sign_tab c (hb c hc)
        rw [t2, h1 c hc]
        rfl
      · cases l with
        | nil => simp at h
        | cons c r =>
          refine ⟨c, List.mem_cons_self .., ?_⟩
          rw [(sign_tab c (hb c (List.mem_cons_self ..))).1]
          exact h1 c (List.mem_cons_self ..)
      · intro c hc
        obtain ⟨t1, t2, t3, _⟩ := sign_tab c (hb c hc)
        rw [t3]
        have := h1 c hc
        rw [Bool.and_eq_true, decide_eq_true_eq, decide_eq_true_eq] at this
        intro z
        rw [Bool.and_eq_true, decide_eq_true_eq, decide_eq_true_eq] at z
        omega
  · have hf : l.all (fun c => decide (c < 128)) = false := by simpa using ha
    rw [hf, Bool.false_and]
    symm
    rw [List.all_eq_false] at hf ⊢
    obtain ⟨c, hc, hn⟩ := hf
    refine ⟨c, hc, ?_⟩
    intro z
    rw [Bool.and_eq_true, decide_eq_true_eq, decide_eq_true_eq] at z
    exact hn (decide_eq_true (by omega))
/-! ### how long data is when it is told -/
def dictOk : List (PyData × PyData) → Bool
  | [] => true
  | [(.int i, .int j)] => i == 0 && j == 1
  | _ => false
theorem dictOk_cases {kvs : List (PyData × PyData)} (h : dictOk kvs = true) : kvs = [] ∨ kvs = [(.int 0, .int 1)] := by
  unfold dictOk at h
  split at h
  · exact .inl rfl
  · rw [Bool.and_eq_true, beq_iff_eq, beq_iff_eq] at h
    rw [h.1, h.2]
    exact .inr rfl
  · cases h
mutual
/-- its ints below B, its texts plain -/
def fine (B : Nat) : PyData → Bool
  | .none => true
  | .bool _ => true
  | .int i => decide (i.natAbs ≤ B)
  | .str x => x.cps.toList.all (fun c => decide (c < 128))
  | .list ds => fineAll B ds
  | .tuple ds => fineAll B ds
  | .dict kvs => dictOk kvs
def fineAll (B : Nat) : List PyData → Bool
  | [] => true
  | d :: r => fine B d && fineAll B r
end
mutual
def wt : PyData → Nat
  | .none => 6
  | .bool _ => 6
  | .int _ => 52
  | .str x => 10 * x.length + 4
  | .list ds => 4 + wtAll ds
  | .tuple ds => 4 + wtAll ds
  | .dict _ => 20
def wtAll : List PyData → Nat
  | [] => 0
  | d :: r => wt d + 2 + wtAll r
end
theorem wtAll_app : ∀ a b : List PyData, wtAll (a ++ b) = wtAll a + wtAll b
  | [], b => by simp [wtAll]
  | x :: r, b => by
    rw [List.cons_append]
    simp only [wtAll]
    rw [wtAll_app r b]
    omega
theorem fineAll_iff (B : Nat) : ∀ ds : List PyData, fineAll B ds = true ↔ ∀ d ∈ ds, fine B d = true
  | [] => by simp [fineAll]
  | d :: r => by simp [fineAll, fineAll_iff B r]
theorem wtAll_mem : ∀ (ds : List PyData) (d : PyData), d ∈ ds → wt d + 2 ≤ wtAll ds
  | [], d, h => by cases h
  | x :: r, d, h => by
    simp only [wtAll]
    rcases List.mem_cons.mp h with rfl | h
    · omega
    · have := wtAll_mem r d h
      omega
theorem wtAll_len : ∀ (ds : List PyData), 2 * ds.length ≤ wtAll ds
  | [] => by simp
  | x :: r => by
    have := wtAll_len r
    simp only [wtAll, List.length_cons]
    omega
mutual
theorem shown_le {B : Nat} (hB : B < 10 ^ 50) : ∀ d : PyData, fine B d = true → d.showable = true ∧ d.shown.length ≤ wt d
  | .none, _ => ⟨by simp [PyData.showable], by rw [PyData.shown_none]; exact by decide +kernel⟩
  | .bool b, _ => ⟨by simp [PyData.showable], by rw [PyData.shown_bool]; cases b <;> exact by decide +kernel⟩
  | .int i, h => by
    have hi : i.natAbs ≤ B := of_decide_eq_true (by simpa only [fine] using h)
    have hlt : i.natAbs < 10 ^ 50 := Nat.lt_of_le_of_lt hi hB
    refine ⟨?_, ?_⟩
    · have : i.natAbs.log2 < 1920 := by
        rcases Nat.eq_zero_or_pos i.natAbs with z | z
        · rw [z]; decide
        · rw [Nat.log2_lt (by omega)]
          exact Nat.lt_trans hlt (by decide +kernel)
      simpa [PyData.showable] using this
    · rw [PyData.shown_int]
      have := int_text_length_le10 (a := i) (k := 50) (by decide) hlt
      show (Str.ofString (toString i)).length ≤ 52
      rw [PySem.ofString_length]
      omega
  | .str x, h => by
    refine ⟨by simp [PyData.showable], ?_⟩
    rw [PyData.shown_str]
    have hx : ∀ c ∈ x.cps.toList, c < 16 ^ 8 := by
      intro c hc
      have hc' : x.cps.toList.all (fun c => decide (c < 128)) = true := by simpa only [fine] using h
      have := of_decide_eq_true (List.all_eq_true.mp hc' c hc)
      omega
    have := StrLaws.reprText_len x hx
    simp only [wt]
    omega
  | .list ds, h => by
    obtain ⟨a, b⟩ := shownAll_le hB ds (by simpa only [fine] using h)
    refine ⟨by simpa [PyData.showable] using a, ?_⟩
    have := list_le (PyData.shownAll ds)
    simp only [PyData.shown, wt]
    omega
  | .tuple ds, h => by
    obtain ⟨a, b⟩ := shownAll_le hB ds (by simpa only [fine] using h)
    refine ⟨by simpa [PyData.showable] using a, ?_⟩
    have := tuple_le (PyData.shownAll ds)
    simp only [PyData.shown, wt]
    omega
  | .dict kvs, h => by
    rcases dictOk_cases (by simpa only [fine] using h) with rfl | rfl
    · exact ⟨by simp [PyData.showable, PyData.showableKv], by simp only [PyData.shown, PyData.shownKv, wt]; decide +kernel⟩
    · refine ⟨?_, by simp only [PyData.shown, PyData.shownKv, wt]; decide +kernel⟩
      simp only [PyData.showable, PyData.showableKv]
      decide +kernel
theorem shownAll_le {B : Nat} (hB : B < 10 ^ 50) : ∀ ds : List PyData, fineAll B ds = true → PyData.showableAll ds = true ∧ piled (PyData.shownAll ds) ≤ wtAll ds
  | [], _ => ⟨by simp [PyData.showableAll], by simp [PyData.shownAll, piled_nil]⟩
  | d :: r, h => by
    have h' : fine B d = true ∧ fineAll B r = true := by simpa [fineAll] using h
    obtain ⟨a1, a2⟩ := shown_le hB d h'.1
    obtain ⟨b1, b2⟩ := shownAll_le hB r h'.2
    refine ⟨by simp [PyData.showableAll, a1, b1], ?_⟩
    simp only [PyData.shownAll, piled_cons, wtAll]
    omega
end
theorem pair_cases (d : PyData) : (isPair d = false ∧ ∀ a b, d ≠ .tuple [a, b]) ∨ ∃ a b, d = .tuple [a, b] := by
  by_cases h : ∃ a b, d = .tuple [a, b]
  · exact .inr h
  · refine .inl ⟨?_, fun a b e => h ⟨a, b, e⟩⟩
    unfold isPair
    split
    · rename_i a b
      exact absurd ⟨a, b, rfl⟩ h
    · rfl
theorem int_cases (d : PyData) : (isInt d = false ∧ ∀ i, d ≠ .int i) ∨ ∃ i, d = .int i := by
  cases d <;> first | exact .inr ⟨_, rfl⟩ | exact .inl ⟨rfl, fun i e => by cases e⟩
theorem _root_.Lay.Dx.pair {K : PySem.W.Frag} {H : Hp} {v : V} {a b : PyData} (h : Dx K H v (.tuple [a, b])) : ∃ t va vb, v = .ref t ∧ SqT K H t [va, vb] ∧ Dx K H va a ∧ Dx K H vb b := by
  cases h with
  | tup hs hd =>
    cases hd with
    | cons h1 r => cases r with
      | cons h2 r2 => cases r2 with
        | nil => exact ⟨_, _, _, rfl, hs, h1, h2⟩
theorem _root_.Lay.Dx.seq {K : PySem.W.Frag} {H : Hp} {v : V} {ds : List PyData} (h : Dx K H v (.tuple ds)) : ∃ t vs, v = .ref t ∧ SqT K H t vs ∧ DxAll K H vs ds := by
  cases h with
  | tup hs hd => exact ⟨_, _, rfl, hs, hd⟩
theorem _root_.Lay.Dx.int_inv {K : PySem.W.Frag} {H : Hp} {v : V} {i : Int} (h : Dx K H v (.int i)) : v = .int i := by cases h; rfl
theorem _root_.Lay.DxAll.get {K : PySem.W.Frag} {H : Hp} : ∀ {vs : List V} {ds : List PyData} (h : DxAll K H vs ds) (i : Nat) (v : V) (d : PyData), vs[i]? = some v → ds[i]? = some d → Dx K H v d
  | _, _, .nil, i, v, d, h, _ => by simp at h
  | _, _, .cons h1 r, 0, v, d, hv, hd => by
    rw [List.getElem?_cons_zero] at hv hd
    cases hv
    cases hd
    exact h1
  | _, _, .cons h1 r, i + 1, v, d, hv, hd => by
    rw [List.getElem?_cons_succ] at hv hd
    exact r.get i v d hv hd
theorem not_cell {d : PyData} (h : ∀ a b, d ≠ .tuple [a, b]) : isCell d = false := by
  unfold isCell
  split
  · exact absurd rfl (h _ _)
  · rfl
theorem not_write {d : PyData} (h : ∀ a b, d ≠ .tuple [a, b]) : isWrite d = false := by
  unfold isWrite
  split
  · exact absurd rfl (h _ _)
  · rfl
theorem not_change {d : PyData} (h : ∀ a b, d ≠ .tuple [a, b]) : isChange d = false := by
  unfold isChange
  split
  · exact absurd rfl (h _ _)
  · rfl
theorem wt_pair {a b : PyData} {n : Nat} (h : wt (.tuple [a, b]) ≤ n) : wt a ≤ n ∧ wt b ≤ n := by
  simp only [wt, wtAll] at h
  omega
theorem kit_tab : kitB "NoneType" "int" = some false ∧ kitB "bool" "int" = some true ∧ kitB "int" "int" = some true ∧ kitB "str" "int" = some false ∧ kitB "list" "int" = some false ∧ kitB "tuple" "int" = some false ∧ kitB "dict" "int" = some false ∧
    kitB "NoneType" "bool" = some false ∧ kitB "bool" "bool" = some true ∧ kitB "int" "bool" = some false ∧ kitB "str" "bool" = some false ∧ kitB "list" "bool" = some false ∧ kitB "tuple" "bool" = some false ∧ kitB "dict" "bool" = some false ∧
    kitB "NoneType" "tuple" = some false ∧ kitB "bool" "tuple" = some false ∧ kitB "int" "tuple" = some false ∧ kitB "str" "tuple" = some false ∧ kitB "list" "tuple" = some false ∧ kitB "tuple" "tuple" = some true ∧ kitB "dict" "tuple" = some false ∧
    kitB "NoneType" "str" = some false ∧ kitB "bool" "str" = some false ∧ kitB "int" "str" = some false ∧ kitB "str" "str" = some true ∧ kitB "list" "str" = some false ∧ kitB "tuple" "str" = some false ∧ kitB "dict" "str" = some false := by
  decide +kernel
def inInt : PyData → Bool
  | .int _ => true
  | .bool _ => true
  | _ => false
def isTup : PyData → Bool
  | .tuple _ => true
  | _ => false
def isStr : PyData → Bool
  | .str _ => true
  | _ => false
def isBool : PyData → Bool
  | .bool _ => true
  | _ => false
theorem kit_int (d : PyData) : kitB (tyName d) "int" = some (inInt d) := by
  obtain ⟨a, b, c, e, f, g, h, _⟩ := kit_tab
  cases d <;> assumption
theorem kit_bool (d : PyData) : kitB (tyName d) "bool" = some (isBool d) := by
  obtain ⟨_, _, _, _, _, _, _, a, b, c, e, f, g, h, _⟩ := kit_tab
  cases d <;> assumption
theorem kit_tup (d : PyData) : kitB (tyName d) "tuple" = some (isTup d) := by
  obtain ⟨_, _, _, _, _, _, _, _, _, _, _, _, _, _, a, b, c, e, f, g, h, _⟩ := kit_tab
  cases d <;> assumption
theorem kit_str (d : PyData) : kitB (tyName d) "str" = some (isStr d) := by
  obtain ⟨_, _, _, _, _, _, _, _, _, _, _, _, _, _, _, _, _, _, _, _, _, a, b, c, e, f, g, h⟩ := kit_tab
  cases d <;> assumption
theorem tup_cases (d : PyData) : (isTup d = false ∧ ∀ ds, d ≠ .tuple ds) ∨ ∃ ds, d = .tuple ds := by
  cases d <;> first | exact .inr ⟨_, rfl⟩ | exact .inl ⟨rfl, fun i e => by cases e⟩
theorem str_cases (d : PyData) : (isStr d = false ∧ isName d = false) ∨ ∃ x, d = .str x := by
  cases d <;> first | exact .inr ⟨_, rfl⟩ | exact .inl ⟨rfl, rfl⟩
end M02
namespace C02
open PySem PySem.Spec PyProof.Rows L2 Lay M02
def topS (i : Nat) : Stmt := PySem.Challenge.pw_heldparts_k02_cells_contents_names_and_c.main.body.getD i (.Pass ⟨0, 0, 0, 0⟩)
abbrev s_is_int : Stmt := topS 1
abbrev N_is_int : List Str := ["thing"]
theorem sc_is_int : FnScope N_is_int ["thing"] (defScope s_is_int) := ⟨rfl, rfl, rfl, by decide +kernel, rfl, by decide +kernel, by decide +kernel⟩
abbrev s_is_pair : Stmt := topS 2
abbrev N_is_pair : List Str := ["thing"]
theorem sc_is_pair : FnScope N_is_pair ["thing"] (defScope s_is_pair) := ⟨rfl, rfl, rfl, by decide +kernel, rfl, by decide +kernel, by decide +kernel⟩
abbrev s_is_cell : Stmt := topS 3
abbrev N_is_cell : List Str := ["thing"]
theorem sc_is_cell : FnScope N_is_cell ["thing"] (defScope s_is_cell) := ⟨rfl, rfl, rfl, by decide +kernel, rfl, by decide +kernel, by decide +kernel⟩
abbrev s_is_write : Stmt := topS 4
abbrev N_is_write : List Str := ["thing"]
theorem sc_is_write : FnScope N_is_write ["thing"] (defScope s_is_write) := ⟨rfl, rfl, rfl, by decide +kernel, rfl, by decide +kernel, by decide +kernel⟩
abbrev s_is_content : Stmt := topS 5
abbrev N_is_content : List Str := ["thing", "last_block", "last_place", "part", "value", "block", "place"]
theorem sc_is_content : FnScope N_is_content ["thing"] (defScope s_is_content) := ⟨rfl, rfl, rfl, by decide +kernel, rfl, by decide +kernel, by decide +kernel⟩
abbrev s_is_name : Stmt := topS 6
abbrev N_is_name : List Str := ["thing"]
theorem sc_is_name : FnScope N_is_name ["thing"] (defScope s_is_name) := ⟨rfl, rfl, rfl, by decide +kernel, rfl, by decide +kernel, by decide +kernel⟩
abbrev s_is_change : Stmt := topS 7
abbrev N_is_change : List Str := ["thing", "first", "last"]
theorem sc_is_change : FnScope N_is_change ["thing"] (defScope s_is_change) := ⟨rfl, rfl, rfl, by decide +kernel, rfl, by decide +kernel, by decide +kernel⟩
abbrev s_law_feed : Stmt := topS 9
abbrev N_law_feed : List Str := ["_law_script", "_law_mixed_here", "_law_cell"]
theorem sc_law_feed : FnScope N_law_feed ["_law_script"] (defScope s_law_feed) := ⟨rfl, rfl, rfl, by decide +kernel, rfl, by decide +kernel, by decide +kernel⟩
abbrev s_law_take : Stmt := topS 10
abbrev N_law_take : List Str := ["_law_feed_here", "_law_many", "_law_number_here", "_law_cell"]
theorem sc_law_take : FnScope N_law_take ["_law_feed_here", "_law_many"] (defScope s_law_take) := ⟨rfl, rfl, rfl, by decide +kernel, rfl, by decide +kernel, by decide +kernel⟩
abbrev s_law_one : Stmt := topS 11
abbrev N_law_one : List Str := ["_law_feed_here", "_law_some"]
theorem sc_law_one : FnScope N_law_one ["_law_feed_here", "_law_some"] (defScope s_law_one) := ⟨rfl, rfl, rfl, by decide +kernel, rfl, by decide +kernel, by decide +kernel⟩
abbrev s_law_mixed : Stmt := topS 12
abbrev N_law_mixed : List Str := ["_law_feed_here", "_law_some", "_law_left", "_law_k"]
theorem sc_law_mixed : FnScope N_law_mixed ["_law_feed_here", "_law_some"] (defScope s_law_mixed) := ⟨rfl, rfl, rfl, by decide +kernel, rfl, by decide +kernel, by decide +kernel⟩
abbrev s_law_whole : Stmt := topS 13
abbrev N_law_whole : List Str := ["_law_it"]
theorem sc_law_whole : FnScope N_law_whole ["_law_it"] (defScope s_law_whole) := ⟨rfl, rfl, rfl, by decide +kernel, rfl, by decide +kernel, by decide +kernel⟩
abbrev s_law_is_cell : Stmt := topS 14
abbrev N_law_is_cell : List Str := ["_law_it", "_law_one_here"]
theorem sc_law_is_cell : FnScope N_law_is_cell ["_law_it"] (defScope s_law_is_cell) := ⟨rfl, rfl, rfl, by decide +kernel, rfl, by decide +kernel, by decide +kernel⟩
abbrev s_law_is_content : Stmt := topS 15
abbrev N_law_is_content : List Str := ["_law_it", "_law_last", "_law_pair"]
theorem sc_law_is_content : FnScope N_law_is_content ["_law_it"] (defScope s_law_is_content) := ⟨rfl, rfl, rfl, by decide +kernel, rfl, by decide +kernel, by decide +kernel⟩
abbrev s_law_is_name : Stmt := topS 16
abbrev N_law_is_name : List Str := ["_law_it", "_law_sign"]
theorem sc_law_is_name : FnScope N_law_is_name ["_law_it"] (defScope s_law_is_name) := ⟨rfl, rfl, rfl, by decide +kernel, rfl, by decide +kernel, by decide +kernel⟩
abbrev s_law_is_change : Stmt := topS 17
abbrev N_law_is_change : List Str := ["_law_it", "_law_cell", "_law_value"]
theorem sc_law_is_change : FnScope N_law_is_change ["_law_it"] (defScope s_law_is_change) := ⟨rfl, rfl, rfl, by decide +kernel, rfl, by decide +kernel, by decide +kernel⟩
abbrev s_law_number : Stmt := topS 18
abbrev N_law_number : List Str := ["_law_feed_here"]
theorem sc_law_number : FnScope N_law_number ["_law_feed_here"] (defScope s_law_number) := ⟨rfl, rfl, rfl, by decide +kernel, rfl, by decide +kernel, by decide +kernel⟩
abbrev s_law_cells : Stmt := topS 19
abbrev N_law_cells : List Str := ["_law_feed_here", "_law_many", "_law_block", "_law_some", "_law_k"]
theorem sc_law_cells : FnScope N_law_cells ["_law_feed_here", "_law_many"] (defScope s_law_cells) := ⟨rfl, rfl, rfl, by decide +kernel, rfl, by decide +kernel, by decide +kernel⟩
abbrev s_law_made : Stmt := topS 20
abbrev N_law_made : List Str := ["_law_feed_here", "_law_cell"]
theorem sc_law_made : FnScope N_law_made ["_law_feed_here"] (defScope s_law_made) := ⟨rfl, rfl, rfl, by decide +kernel, rfl, by decide +kernel, by decide +kernel⟩
abbrev s_law_word : Stmt := topS 21
abbrev N_law_word : List Str := ["_law_feed_here", "_law_letters", "_law_length", "_law_k"]
theorem sc_law_word : FnScope N_law_word ["_law_feed_here"] (defScope s_law_word) := ⟨rfl, rfl, rfl, by decide +kernel, rfl, by decide +kernel, by decide +kernel⟩
abbrev s_law_odd : Stmt := topS 22
abbrev N_law_odd : List Str := ["_law_feed_here", "_law_it", "_law_some"]
theorem sc_law_odd : FnScope N_law_odd ["_law_feed_here", "_law_it"] (defScope s_law_odd) := ⟨rfl, rfl, rfl, by decide +kernel, rfl, by decide +kernel, by decide +kernel⟩
abbrev s_law_bent : Stmt := topS 23
abbrev N_law_bent : List Str := ["_law_feed_here", "_law_it", "_law_way", "_law_at", "_law_some"]
theorem sc_law_bent : FnScope N_law_bent ["_law_feed_here", "_law_it"] (defScope s_law_bent) := ⟨rfl, rfl, rfl, by decide +kernel, rfl, by decide +kernel, by decide +kernel⟩
abbrev s_law_great : Stmt := topS 24
abbrev N_law_great : List Str := ["_law_feed_here", "_law_wide", "_law_block", "_law_k"]
theorem sc_law_great : FnScope N_law_great ["_law_feed_here"] (defScope s_law_great) := ⟨rfl, rfl, rfl, by decide +kernel, rfl, by decide +kernel, by decide +kernel⟩
abbrev s_law_right : Stmt := topS 25
abbrev N_law_right : List Str := ["_law_it", "_law_due", "_law_kept", "_law_told", "_law_named"]
theorem sc_law_right : FnScope N_law_right ["_law_it"] (defScope s_law_right) := ⟨rfl, rfl, rfl, by decide +kernel, rfl, by decide +kernel, by decide +kernel⟩
abbrev s_law : Stmt := topS 26
abbrev N_law : List Str := ["_law_script", "_law_feed_here", "_law_some", "_law_turn", "_law_turned", "_law_good", "_law_it", "_law_great_here", "_law_at", "_law_made_here", "_law_word_here", "_law_bent_here", "_law_one_here", "_law_k"]
theorem sc_law : FnScope N_law ["_law_script"] (defScope s_law) := ⟨rfl, rfl, rfl, by decide +kernel, rfl, by decide +kernel, by decide +kernel⟩
section
variable {P : Program} {w : World} {K : PySem.W.Frag} {mg : Str → Option Value} {base : Heap}
/-- a def that tells of data whether it is so -/
def sp_is (K : PySem.W.Frag) (f : PyData → Bool) : Sp := fun vs H Q _ => ∃ v d, vs = [v] ∧ Dx K H v d ∧ wt d ≤ 1000000 ∧ ∀ H', Same H H' → Q (.bl (f d)) H'
theorem isInt_eq (d : PyData) : (if inInt d = true then (.bl (!isBool d) : V) else .bl false) = .bl (isInt d) := by cases d <;> rfl
theorem ok_is_int {f : Addr} {fd : FuncData} (F : Fun K "is_int" "is_int" s_is_int f fd) (z_isinstance : mg "isinstance" = none) (z_int : mg "int" = none) (z_bool : mg "bool" = none) :
    FnG P w K mg base CX0 1 f fd ["thing"] (sp_is K isInt) := by
  refine okG F sc_is_int (fun vs H Q E h => ?_) (fun cdv A outer s H vs Q E hr hq h => ?_)
  · obtain ⟨v, d, rfl, _⟩ := h
    rfl
  · obtain ⟨v, d, rfl, hd, hw, k⟩ := h
    have nd := sc_is_int.nd
    refine ⟨_, (pss_one (ps_ret (pe_and (pe_callB (isiXK K) (by rfl) z_isinstance (by decide +kernel) (pa_cons (pv 0) (pa_cons (pe_bltn (v := .ty "int") (u := .type "int") (by rfl) z_int (by decide +kernel) rfl) pa_nil))) (pe_one (pe_not (pe_callB (isiXK K) (by rfl) z_isinstance (by decide +kernel) (pa_cons (pv 0) (pa_cons (pe_bltn (v := .ty "bool") (u := .type "bool") (by rfl) z_bool (by decide +kernel) rfl) pa_nil)))))))), ?_⟩
    simp only [tSeq, tAsg, gName, tVar, tC, tOp, tUn, tNil, tCons, tCall, tCB, tBM, tBM0, tSl, tNoPart, tPart, tRet, tRetN, tIf, tIfS, tB, tTest, tDrop, tNext, tTup, tLst, tAnd, tOr, tNot, tNotV, tYes, tIsN, tNotN, rI, rI0, rU, rEq, rNe, rPop, rAppend, rCat, rSetL, rIxL, rIxS, rSlL, tRevL, tFor_eq, tWhile_eq, tLc_eq, iList, iTup, iRng1, iRng2, iStr, iZip, gTup, gCons, gNil, gSub, L2.start, Lay.cx_K, CDiv, CDivN, CPow, List.map_cons, List.map_nil, List.length_cons, List.length_nil, List.replicate_succ, List.replicate_zero, List.cons_append, List.nil_append, List.append_nil, List.set_cons_zero, List.set_cons_succ, List.getElem?_cons_zero, List.getElem?_cons_succ, Option.some.injEq, exists_eq_left', V.int.injEq, V.str.injEq, V.ref.injEq, V.bl.injEq, List.cons.injEq, and_true, true_and, exists_and_left, exists_eq_left, exists_eq, and_assoc, Nat.reduceAdd, Nat.reduceSub, Nat.zero_add, exists_and_right, exists_const, L2.wipe, if_true, if_false, tBits, rLenK, rCopyK, rTupleK, tAndV, tOrV, tNotV, tChain, tMatch, tAsg2, tRevT, rIsiX, rIsX, rNeI, rNum, tPar, tM0, tM1, rEqE, rNeE, Bool.not_true, Bool.not_false, Bool.false_eq_true, N_is_int]
    have q := k H (Same.refl H)
    refine ⟨d, _, rfl, hd, _, kit_int d, ?_⟩
    rw [← isInt_eq] at q
    refine ite2 (fun c => ?_) (fun c => ?_)
    · rw [if_pos c] at q
      exact ⟨d, _, rfl, hd, _, kit_bool d, q⟩
    · rw [if_neg c] at q
      exact q
theorem ok_is_pair {f : Addr} {fd : FuncData} (F : Fun K "is_pair" "is_pair" s_is_pair f fd) (z_isinstance : mg "isinstance" = none) (z_tuple : mg "tuple" = none) (z_len : mg "len" = none) :
    FnG P w K mg base CX0 1 f fd ["thing"] (sp_is K isPair) := by
  refine okG F sc_is_pair (fun vs H Q E h => ?_) (fun cdv A outer s H vs Q E hr hq h => ?_)
  · obtain ⟨v, d, rfl, _⟩ := h
    rfl
  · obtain ⟨v, d, rfl, hd, hw, k⟩ := h
    have nd := sc_is_pair.nd
    refine ⟨_, (pss_one (ps_ret (pe_and (pe_callB (isiXK K) (by rfl) z_isinstance (by decide +kernel) (pa_cons (pv 0) (pa_cons (pe_bltn (v := .ty "tuple") (u := .type "tuple") (by rfl) z_tuple (by decide +kernel) rfl) pa_nil))) (pe_one (pe_cmpR op_eq (pe_callB (lenK K) (by rfl) z_len (by decide +kernel) (pa_cons (pv 0) pa_nil)) pe_int (nomark _)))))), ?_⟩
    simp only [tSeq, tAsg, gName, tVar, tC, tOp, tUn, tNil, tCons, tCall, tCB, tBM, tBM0, tSl, tNoPart, tPart, tRet, tRetN, tIf, tIfS, tB, tTest, tDrop, tNext, tTup, tLst, tAnd, tOr, tNot, tNotV, tYes, tIsN, tNotN, rI, rI0, rU, rEq, rNe, rPop, rAppend, rCat, rSetL, rIxL, rIxS, rSlL, tRevL, tFor_eq, tWhile_eq, tLc_eq, iList, iTup, iRng1, iRng2, iStr, iZip, gTup, gCons, gNil, gSub, L2.start, Lay.cx_K, CDiv, CDivN, CPow, List.map_cons, List.map_nil, List.length_cons, List.length_nil, List.replicate_succ, List.replicate_zero, List.cons_append, List.nil_append, List.append_nil, List.set_cons_zero, List.set_cons_succ, List.getElem?_cons_zero, List.getElem?_cons_succ, Option.some.injEq, exists_eq_left', V.int.injEq, V.str.injEq, V.ref.injEq, V.bl.injEq, List.cons.injEq, and_true, true_and, exists_and_left, exists_eq_left, exists_eq, and_assoc, Nat.reduceAdd, Nat.reduceSub, Nat.zero_add, exists_and_right, exists_const, L2.wipe, if_true, if_false, tBits, rLenK, rCopyK, rTupleK, tAndV, tOrV, tNotV, tChain, tMatch, tAsg2, tRevT, rIsiX, rIsX, rNeI, rNum, tPar, tM0, tM1, rEqE, rNeE, Bool.not_true, Bool.not_false, Bool.false_eq_true, N_is_pair]
    have q := k H (Same.refl H)
    refine ⟨d, _, rfl, hd, _, kit_tup d, ?_⟩
    rcases tup_cases d with ⟨e, n⟩ | ⟨ds, rfl⟩
    · rw [e, if_neg (by decide)]
      have : isPair d = false := by
        unfold isPair
        split
        · exact absurd rfl (n _)
        · rfl
      rw [this] at q
      exact q
    · obtain ⟨t, vs, rfl, hs, ha⟩ := hd.seq
      refine iteT ⟨_, rfl, _, .inr hs, ?_⟩
      have hl := ha.len
      have : isPair (.tuple ds) = decide (((vs.length : Nat) : Int) = 2) := by
        rw [hl]
        cases ds with
        | nil => rfl
        | cons a r => cases r with
          | nil => rfl
          | cons b r2 => cases r2 with
            | nil => rfl
            | cons c r3 =>
              symm
              refine decide_eq_false fun e => ?_
              simp only [List.length_cons] at e
              omega
      rw [this] at q
      exact ⟨rfl, q⟩
theorem ok_is_cell {f : Addr} {fd : FuncData} (F : Fun K "is_cell" "is_cell" s_is_cell f fd) 
    (D_is_int : Has P w K mg base 1 "is_int" ["thing"] (sp_is K isInt))
    (D_is_pair : Has P w K mg base 1 "is_pair" ["thing"] (sp_is K isPair)) :
    FnG P w K mg base CX0 2 f fd ["thing"] (sp_is K isCell) := by
  refine okG F sc_is_cell (fun vs H Q E h => ?_) (fun cdv A outer s H vs Q E hr hq h => ?_)
  · obtain ⟨v, d, rfl, _⟩ := h
    rfl
  · obtain ⟨v, d, rfl, hd, hw, k⟩ := h
    have nd := sc_is_cell.nd
    refine ⟨_, (pss_cons (ps_if (pt_not (PW.pt (pw_and (pt_val (pe_c D_is_pair (hr.mono (by decide)) hq (pa_cons (pv 0) pa_nil))) (pw_and (pt_val (pe_c D_is_int (hr.mono (by decide)) hq (pa_cons (pe_ix (ixTK K) (pv 0) pe_int (fun _ _ => rfl)) pa_nil))) (pw_and1 (pt_val (pe_c D_is_int (hr.mono (by decide)) hq (pa_cons (pe_ix (ixTK K) (pv 0) pe_int (fun _ _ => rfl)) pa_nil)))))))) (pss_one (ps_ret pe_bl)) pss_nil)
      (pss_one (ps_ret (pe_and (pe_cmpR op_ge (pe_ix (ixTK K) (pv 0) pe_int (fun _ _ => rfl)) pe_int (nomark _)) (pe_one (pe_cmpR op_ge (pe_ix (ixTK K) (pv 0) pe_int (fun _ _ => rfl)) pe_int (nomark _))))))), ?_⟩
    simp only [tSeq, tAsg, gName, tVar, tC, tOp, tUn, tNil, tCons, tCall, tCB, tBM, tBM0, tSl, tNoPart, tPart, tRet, tRetN, tIf, tIfS, tB, tTest, tDrop, tNext, tTup, tLst, tAnd, tOr, tNot, tNotV, tYes, tIsN, tNotN, rI, rI0, rU, rEq, rNe, rPop, rAppend, rCat, rSetL, rIxL, rIxS, rSlL, tRevL, tFor_eq, tWhile_eq, tLc_eq, iList, iTup, iRng1, iRng2, iStr, iZip, gTup, gCons, gNil, gSub, L2.start, Lay.cx_K, CDiv, CDivN, CPow, List.map_cons, List.map_nil, List.length_cons, List.length_nil, List.replicate_succ, List.replicate_zero, List.cons_append, List.nil_append, List.append_nil, List.set_cons_zero, List.set_cons_succ, List.getElem?_cons_zero, List.getElem?_cons_succ, Option.some.injEq, exists_eq_left', V.int.injEq, V.str.injEq, V.ref.injEq, V.bl.injEq, List.cons.injEq, and_true, true_and, exists_and_left, exists_eq_left, exists_eq, and_assoc, Nat.reduceAdd, Nat.reduceSub, Nat.zero_add, exists_and_right, exists_const, L2.wipe, if_true, if_false, tBits, rLenK, rCopyK, rTupleK, tAndV, tOrV, tNotV, tChain, tMatch, tAsg2, tRevT, rIsiX, rIsX, rNeI, rNum, tPar, tM0, tM1, rEqE, rNeE, Bool.not_true, Bool.not_false, Bool.false_eq_true, N_is_cell]
    refine ⟨v, d, rfl, hd, hw, fun H1 s1 => ⟨_, rfl, ?_⟩⟩
    rcases pair_cases d with ⟨e, n⟩ | ⟨a, b, rfl⟩
    · rw [e]
      refine iteF ?_
      have q := k H1 s1
      rw [not_cell n] at q
      exact q
    · obtain ⟨t, va, vb, rfl, hs, ha, hb⟩ := hd.pair
      obtain ⟨wa, wb⟩ := wt_pair hw
      refine iteT ⟨_, _, _, _, rfl, rfl, sameT s1 hs, atI_nat rfl, va, a, rfl, ha.sub s1, wa, fun H2 s2 => ⟨_, rfl, ?_⟩⟩
      have s12 := s1.trans s2
      rcases int_cases a with ⟨e, n⟩ | ⟨i, rfl⟩
      · rw [e]
        refine iteF ?_
        have q := k H2 s12
        have : isCell (.tuple [a, b]) = false := by
          unfold isCell
          split
          · rename_i z
            injection z with z
            injection z with z _
            exact absurd z (n _)
          · rfl
        rw [this] at q
        exact q
      · refine iteT ⟨_, _, _, _, rfl, rfl, sameT s12 hs, atI_nat rfl, vb, b, rfl, hb.sub s12, wb, fun H3 s3 => ⟨_, rfl, ?_⟩⟩
        have s13 := s12.trans s3
        have q := k H3 s13
        rcases int_cases b with ⟨e, n⟩ | ⟨j, rfl⟩
        · rw [e]
          refine iteT ?_
          have : isCell (.tuple [.int i, b]) = false := by
            unfold isCell
            split
            · rename_i z
              injection z with z
              injection z with _ z
              injection z with z _
              exact absurd z (n _)
            · rfl
          rw [this] at q
          exact q
        · refine iteF ?_
          obtain rfl := ha.int_inv
          obtain rfl := hb.int_inv
          refine ⟨_, _, _, _, rfl, rfl, sameT s13 hs, atI_nat rfl, _, rfl, ?_⟩
          refine ite2 (fun c => ?_) (fun c => ?_)
          · refine ⟨_, _, _, _, rfl, rfl, sameT s13 hs, atI_nat rfl, _, rfl, ?_⟩
            simp only [isCell, c, Bool.true_and] at q
            exact q
          · have c' : decide (0 ≤ i) = false := by simpa using c
            simp only [isCell, c', Bool.false_and] at q
            exact q
theorem ok_is_write {f : Addr} {fd : FuncData} (F : Fun K "is_write" "is_write" s_is_write f fd) 
    (D_is_int : Has P w K mg base 1 "is_int" ["thing"] (sp_is K isInt))
    (D_is_pair : Has P w K mg base 1 "is_pair" ["thing"] (sp_is K isPair))
    (D_is_cell : Has P w K mg base 2 "is_cell" ["thing"] (sp_is K isCell)) :
    FnG P w K mg base CX0 3 f fd ["thing"] (sp_is K isWrite) := by
  refine okG F sc_is_write (fun vs H Q E h => ?_) (fun cdv A outer s H vs Q E hr hq h => ?_)
  · obtain ⟨v, d, rfl, _⟩ := h
    rfl
  · obtain ⟨v, d, rfl, hd, hw, k⟩ := h
    have nd := sc_is_write.nd
    refine ⟨_, (pss_one (ps_ret (pe_and (pe_c D_is_pair (hr.mono (by decide)) hq (pa_cons (pv 0) pa_nil)) (pe_and (pe_c D_is_cell (hr.mono (by decide)) hq (pa_cons (pe_ix (ixTK K) (pv 0) pe_int (fun _ _ => rfl)) pa_nil)) (pe_one (pe_c D_is_int (hr.mono (by decide)) hq (pa_cons (pe_ix (ixTK K) (pv 0) pe_int (fun _ _ => rfl)) pa_nil))))))), ?_⟩
    simp only [tSeq, tAsg, gName, tVar, tC, tOp, tUn, tNil, tCons, tCall, tCB, tBM, tBM0, tSl, tNoPart, tPart, tRet, tRetN, tIf, tIfS, tB, tTest, tDrop, tNext, tTup, tLst, tAnd, tOr, tNot, tNotV, tYes, tIsN, tNotN, rI, rI0, rU, rEq, rNe, rPop, rAppend, rCat, rSetL, rIxL, rIxS, rSlL, tRevL, tFor_eq, tWhile_eq, tLc_eq, iList, iTup, iRng1, iRng2, iStr, iZip, gTup, gCons, gNil, gSub, L2.start, Lay.cx_K, CDiv, CDivN, CPow, List.map_cons, List.map_nil, List.length_cons, List.length_nil, List.replicate_succ, List.replicate_zero, List.cons_append, List.nil_append, List.append_nil, List.set_cons_zero, List.set_cons_succ, List.getElem?_cons_zero, List.getElem?_cons_succ, Option.some.injEq, exists_eq_left', V.int.injEq, V.str.injEq, V.ref.injEq, V.bl.injEq, List.cons.injEq, and_true, true_and, exists_and_left, exists_eq_left, exists_eq, and_assoc, Nat.reduceAdd, Nat.reduceSub, Nat.zero_add, exists_and_right, exists_const, L2.wipe, if_true, if_false, tBits, rLenK, rCopyK, rTupleK, tAndV, tOrV, tNotV, tChain, tMatch, tAsg2, tRevT, rIsiX, rIsX, rNeI, rNum, tPar, tM0, tM1, rEqE, rNeE, Bool.not_true, Bool.not_false, Bool.false_eq_true, N_is_write]
    refine ⟨v, d, rfl, hd, hw, fun H1 s1 => ⟨_, rfl, ?_⟩⟩
    rcases pair_cases d with ⟨e, n⟩ | ⟨a, b, rfl⟩
    · rw [e]
      refine iteF ?_
      have q := k H1 s1
      rw [not_write n] at q
      exact q
    · obtain ⟨t, va, vb, rfl, hs, ha, hb⟩ := hd.pair
      obtain ⟨wa, wb⟩ := wt_pair hw
      refine iteT ⟨_, _, _, _, rfl, rfl, sameT s1 hs, atI_nat rfl, va, a, rfl, ha.sub s1, wa, fun H2 s2 => ⟨_, rfl, ?_⟩⟩
      have s12 := s1.trans s2
      refine ite2 (fun c => ?_) (fun c => ?_)
      · refine ⟨_, _, _, _, rfl, rfl, sameT s12 hs, atI_nat rfl, vb, b, rfl, hb.sub s12, wb, fun H3 s3 => ?_⟩
        have q := k H3 (s12.trans s3)
        simp only [isWrite, c, Bool.true_and] at q
        exact q
      · have q := k H2 s12
        have c' : isCell a = false := by simpa using c
        simp only [isWrite, c', Bool.false_and] at q
        exact q
theorem ok_is_name {f : Addr} {fd : FuncData} (F : Fun K "is_name" "is_name" s_is_name f fd) (z_isinstance : mg "isinstance" = none) (z_str : mg "str" = none) (z_len : mg "len" = none) :
    FnG P w K mg base CX0 1 f fd ["thing"] (sp_is K isName) := by
  refine okG F sc_is_name (fun vs H Q E h => ?_) (fun cdv A outer s H vs Q E hr hq h => ?_)
  · obtain ⟨v, d, rfl, _⟩ := h
    rfl
  · obtain ⟨v, d, rfl, hd, hw, k⟩ := h
    have nd := sc_is_name.nd
    refine ⟨_, (pss_cons (ps_if (pt_not (PW.pt (pw_and (pt_val (pe_callB (isiXK K) (by rfl) z_isinstance (by decide +kernel) (pa_cons (pv 0) (pa_cons (pe_bltn (v := .ty "str") (u := .type "str") (by rfl) z_str (by decide +kernel) rfl) pa_nil)))) (pw_and1 (pt_chain op_le op_le pe_int (pe_callB call_len_str (by rfl) z_len (by decide +kernel) (pa_cons (pv 0) pa_nil)) pe_int))))) (pss_one (ps_ret pe_bl)) pss_nil)
      (pss_one (ps_ret (pe_and (bm0K K (pe_bm0 PySem.F.plainAttrs_str PySem.F.slot_str_isascii PySem.F.type_str_isascii mt_isascii (pv 0))) (pe_and (bm0K K (pe_bm0 PySem.F.plainAttrs_str PySem.F.slot_str_isalpha PySem.F.type_str_isalpha mt_isalpha (pv 0))) (pe_one (bm0K K (pe_bm0 PySem.F.plainAttrs_str PySem.F.slot_str_islower PySem.F.type_str_islower mt_islower (pv 0))))))))), ?_⟩
    simp only [tSeq, tAsg, gName, tVar, tC, tOp, tUn, tNil, tCons, tCall, tCB, tBM, tBM0, tSl, tNoPart, tPart, tRet, tRetN, tIf, tIfS, tB, tTest, tDrop, tNext, tTup, tLst, tAnd, tOr, tNot, tNotV, tYes, tIsN, tNotN, rI, rI0, rU, rEq, rNe, rPop, rAppend, rCat, rSetL, rIxL, rIxS, rSlL, tRevL, tFor_eq, tWhile_eq, tLc_eq, iList, iTup, iRng1, iRng2, iStr, iZip, gTup, gCons, gNil, gSub, L2.start, Lay.cx_K, CDiv, CDivN, CPow, List.map_cons, List.map_nil, List.length_cons, List.length_nil, List.replicate_succ, List.replicate_zero, List.cons_append, List.nil_append, List.append_nil, List.set_cons_zero, List.set_cons_succ, List.getElem?_cons_zero, List.getElem?_cons_succ, Option.some.injEq, exists_eq_left', V.int.injEq, V.str.injEq, V.ref.injEq, V.bl.injEq, List.cons.injEq, and_true, true_and, exists_and_left, exists_eq_left, exists_eq, and_assoc, Nat.reduceAdd, Nat.reduceSub, Nat.zero_add, exists_and_right, exists_const, L2.wipe, if_true, if_false, tBits, rLenK, rCopyK, rTupleK, tAndV, tOrV, tNotV, tChain, tMatch, tAsg2, tRevT, rIsiX, rIsX, rNeI, rNum, tPar, tM0, tM1, rEqE, rNeE, Bool.not_true, Bool.not_false, Bool.false_eq_true, N_is_name]
    have q := k H (Same.refl H)
    refine ⟨d, _, rfl, hd, _, kit_str d, ?_⟩
    rcases str_cases d with ⟨e, n⟩ | ⟨x, rfl⟩
    · rw [e]
      refine iteF ?_
      rw [n] at q
      exact q
    · cases hd
      have hl : x.length ≤ 1000000 := by
        simp only [wt] at hw
        omega
      refine iteT ⟨x, rfl, line _ hl, ?_⟩
      have e1 : decide ((1 : Int) ≤ (x.length : Nat)) = decide (1 ≤ x.length) := by
        rw [Bool.eq_iff_iff, decide_eq_true_eq, decide_eq_true_eq]
        omega
      have e2 : decide (((x.length : Nat) : Int) ≤ 8) = decide (x.length ≤ 8) := by
        rw [Bool.eq_iff_iff, decide_eq_true_eq, decide_eq_true_eq]
        omega
      rw [e1, e2]
      refine ite2 (fun c => ?_) (fun c => ?_)
      · have h1 : 1 ≤ x.length := of_decide_eq_true c
        have nm := name_signs x h1
        have qq : Q (.bl (decide (x.length ≤ 8) && (Txt.isascii x && (Txt.isalpha x && Txt.islower x)))) H := by
          rw [nm]
          simp only [isName, okName, c, Bool.true_and] at q
          exact q
        clear q
        cases e8 : decide (x.length ≤ 8) with
        | false =>
          rw [e8] at qq
          exact iteT qq
        | true =>
          rw [e8, Bool.true_and] at qq
          refine iteF ⟨rfl, x, rfl, ?_⟩
          cases ea : Txt.isascii x with
          | false => rw [ea] at qq; exact iteF qq
          | true =>
            rw [ea, Bool.true_and] at qq
            refine iteT ⟨rfl, x, rfl, ?_⟩
            cases eb : Txt.isalpha x with
            | false => rw [eb] at qq; exact iteF qq
            | true =>
              rw [eb, Bool.true_and] at qq
              exact iteT ⟨rfl, x, rfl, qq⟩
      · have c' : decide (1 ≤ x.length) = false := by simpa using c
        simp only [isName, okName, c', Bool.false_and] at q
        exact q
end
end C02
namespace C02
open PySem PySem.Spec PyProof.Rows L2 Lay M02
theorem go_cons (lb lp : Int) (d : PyData) (r : List PyData) : (∃ b p v, d = .tuple [.tuple [.int b, .int p], .int v] ∧ goesOn lb lp (d :: r) = (decide (0 ≤ b) && decide (0 ≤ p) && (decide (lb < b) || (decide (b = lb) && decide (lp < p))) && goesOn b p r)) ∨
    ((∀ b p v, d ≠ .tuple [.tuple [.int b, .int p], .int v]) ∧ goesOn lb lp (d :: r) = false) := by
  by_cases h : ∃ b p v, d = .tuple [.tuple [.int b, .int p], .int v]
  · obtain ⟨b, p, v, rfl⟩ := h
    exact .inl ⟨b, p, v, rfl, rfl⟩
  · refine .inr ⟨fun b p v e => h ⟨b, p, v, e⟩, ?_⟩
    unfold goesOn
    split
    · rename_i e; cases e
    · rename_i e
      injection e with e _
      exact absurd ⟨_, _, _, e⟩ h
    · rfl
theorem parts_of {K : PySem.W.Frag} {H : Hp} {v : V} {d : PyData} (h : Dx K H v d) : (∃ ds xs, ((d = .tuple ds ∧ ∃ a, v = .ref a ∧ SqT K H a xs) ∨ d = .list ds) ∧ Parts K H v (some xs) ∧ DxAll K H xs ds) ∨ ((∀ ds, d ≠ .tuple ds ∧ d ≠ .list ds) ∧ Parts K H v none) := by
  cases h with
  | non => exact .inr ⟨fun ds => ⟨nofun, nofun⟩, .non⟩
  | bl b => exact .inr ⟨fun ds => ⟨nofun, nofun⟩, .bl b⟩
  | int i => exact .inr ⟨fun ds => ⟨nofun, nofun⟩, .int i⟩
  | str z => exact .inr ⟨fun ds => ⟨nofun, nofun⟩, .str z⟩
  | lst hs ha => exact .inl ⟨_, _, .inr rfl, .lst hs, ha⟩
  | tup hs ha => exact .inl ⟨_, _, .inl ⟨rfl, _, rfl, hs⟩, .tup hs, ha⟩
  | dct ha _ _ => exact .inr ⟨fun ds => ⟨nofun, nofun⟩, .dct ha⟩
theorem two_dx {K : PySem.W.Frag} {H : Hp} {x y : V} {ds : List PyData} (h : DxAll K H [x, y] ds) : ∃ a b, ds = [a, b] ∧ Dx K H x a ∧ Dx K H y b := by
  cases h with
  | cons h1 r => cases r with
    | cons h2 r2 => cases r2 with
      | nil => exact ⟨_, _, rfl, h1, h2⟩
theorem go_false {lb lp : Int} {B P' V' : PyData} {r : List PyData} (h : ∀ b p v, ¬(B = .int b ∧ P' = .int p ∧ V' = .int v)) : goesOn lb lp (.tuple [.tuple [B, P'], V'] :: r) = false := by
  rcases go_cons lb lp (.tuple [.tuple [B, P'], V']) r with ⟨b, p, v, e, _⟩ | ⟨_, e⟩
  · injection e with e
    injection e with e1 e
    injection e1 with e1
    injection e1 with e2 e1
    injection e1 with e3 _
    injection e with e4 _
    exact absurd ⟨e2, e3, e4⟩ (h b p v)
  · exact e
theorem three (d : PyData) : (∃ i, d = .int i) ∨ (∃ b, d = .bool b) ∨ (inInt d = false ∧ ∀ k, PyData.eqv d (.int k) = false) := by
  cases d with
  | int i => exact .inl ⟨_, rfl⟩
  | bool b => exact .inr (.inl ⟨_, rfl⟩)
  | none => exact .inr (.inr ⟨rfl, fun _ => rfl⟩)
  | str x => exact .inr (.inr ⟨rfl, fun _ => rfl⟩)
  | list x => exact .inr (.inr ⟨rfl, fun _ => rfl⟩)
  | tuple x => exact .inr (.inr ⟨rfl, fun _ => rfl⟩)
  | dict x => exact .inr (.inr ⟨rfl, fun _ => rfl⟩)
section
variable {P : Program} {w : World} {K : PySem.W.Frag} {mg : Str → Option Value} {base : Heap}
def iC (H : Hp) (t : Addr) (ds : List PyData) (i : Nat) (τ : L2.St) (G : Hp) : Prop := ∃ (lb lp : Int) (b3 b4 b5 b6 : Option V),
  τ = [some (.ref t), some (.int lb), some (.int lp), b3, b4, b5, b6] ∧ Same H G ∧ goesOn (-1) (-1) ds = goesOn lb lp (ds.drop i) ∧ ((0 ≤ lb ∧ 0 ≤ lp) ∨ (i = 0 ∧ lb = -1 ∧ lp = -1))
theorem ok_is_content {f : Addr} {fd : FuncData} (F : Fun K "is_content" "is_content" s_is_content f fd) (z_isinstance : mg "isinstance" = none) (z_tuple : mg "tuple" = none) (z_len : mg "len" = none) (z_int : mg "int" = none)
    (D_is_write : Has P w K mg base 3 "is_write" ["thing"] (sp_is K isWrite)) :
    FnG P w K mg base CX0 4 f fd ["thing"] (sp_is K isContent) := by
  refine okG F sc_is_content (fun vs H Q E h => ?_) (fun cdv A outer s H vs Q E hr hq h => ?_)
  · obtain ⟨v, d, rfl, _⟩ := h
    rfl
  · obtain ⟨v, d, rfl, hd, hw, k⟩ := h
    have nd := sc_is_content.nd
    refine ⟨_, (pss_cons (ps_if (PW.pt (pw_or (pt_not (pt_val (pe_callB (isiXK K) (by rfl) z_isinstance (by decide +kernel) (pa_cons (pv 0) (pa_cons (pe_bltn (v := .ty "tuple") (u := .type "tuple") (by rfl) z_tuple (by decide +kernel) rfl) pa_nil))))) (pw_or1 (PW.pt (pw_and (pt_cmpR op_gt (pe_callB (lenK K) (by rfl) z_len (by decide +kernel) (pa_cons (pv 0) pa_nil)) pe_int (nomark _)) (pw_and1 (pt_not (pt_val (pe_c D_is_write (hr.mono (by decide)) hq (pa_cons (pe_ix (ixTK K) (pv 0) pe_int (fun _ _ => rfl)) pa_nil)))))))))) (pss_one (ps_ret pe_bl)) pss_nil)
      (pss_cons (ps_asg2 (pe_un un_neg pe_int) (pg_name (i := 1) nd rfl (Or.inl rfl)) (pg_name (i := 2) nd rfl (Or.inl rfl)))
      (pss_cons (ps_for PassesOwn.never rfl (piT K (pi_tup (pv 0))) (pg_name (i := 3) nd rfl (Or.inl rfl))
        (pss_one (matchK K (ps_match (i := 5) (j := 6) (k := 4) rfl nd (pv 3) rfl rfl rfl (Or.inl rfl) (Or.inl rfl) (Or.inl rfl)
          (PW.pt (pw_and (pt_val (pe_callB (isiXK K) (by rfl) z_isinstance (by decide +kernel) (pa_cons (pv 3) (pa_cons (pe_bltn (v := .ty "tuple") (u := .type "tuple") (by rfl) z_tuple (by decide +kernel) rfl) pa_nil)))) (pw_and1 (pt_val (pe_callB (isiXK K) (by rfl) z_isinstance (by decide +kernel) (pa_cons (pe_ix (ixTK K) (pv 3) pe_int (fun _ _ => rfl)) (pa_cons (pe_bltn (v := .ty "tuple") (u := .type "tuple") (by rfl) z_tuple (by decide +kernel) rfl) pa_nil)))))))
          (pss_cons (ps_if (PW.pt (pw_or (pt_not (pt_val (pe_callB (isiXK K) (by rfl) z_isinstance (by decide +kernel) (pa_cons (pv 6) (pa_cons (pe_bltn (v := .ty "int") (u := .type "int") (by rfl) z_int (by decide +kernel) rfl) pa_nil))))) (pw_or (pt_not (pt_val (pe_callB (isiXK K) (by rfl) z_isinstance (by decide +kernel) (pa_cons (pv 4) (pa_cons (pe_bltn (v := .ty "int") (u := .type "int") (by rfl) z_int (by decide +kernel) rfl) pa_nil))))) (pw_or (pt_cmpR op_isX (pv 4) pe_bl (nomark _)) (pw_or1 (pt_cmpR op_isX (pv 4) pe_bl (nomark _))))))) (pss_one (ps_ret pe_bl)) pss_nil)
            (pss_cons (ps_if (pt_cmpR (neIK K hr.units) (pv 5) (pv 1) (nomark _)) (pss_cons (ps_if (PW.pt (pw_or (pt_not (pt_val (pe_callB (isiXK K) (by rfl) z_isinstance (by decide +kernel) (pa_cons (pv 5) (pa_cons (pe_bltn (v := .ty "int") (u := .type "int") (by rfl) z_int (by decide +kernel) rfl) pa_nil))))) (pw_or (pt_cmpR op_ltN (pv 5) (pv 1) (nomark _)) (pw_or (pt_cmpR op_ltN (pv 6) pe_int (nomark _)) (pw_or1 (pt_cmpR op_isX (pv 6) pe_bl (nomark _))))))) (pss_one (ps_ret pe_bl)) pss_nil)
              (pss_one (ps_set (i := 1) nd rfl (Or.inl rfl) (pv 5)))) (pss_one (ps_if (pt_cmpR op_leN (pv 6) (pv 2) (nomark _)) (pss_one (ps_ret pe_bl)) pss_nil)))
            (pss_cons (ps_if (PW.pt (pw_or (pt_cmpR op_isX (pv 5) pe_bl (nomark _)) (pw_or (pt_cmpR op_isX (pv 5) pe_bl (nomark _)) (pw_or1 (pt_cmpR op_isX (pv 6) pe_bl (nomark _)))))) (pss_one (ps_ret pe_bl)) pss_nil)
            (pss_one (ps_set (i := 2) nd rfl (Or.inl rfl) (pv 6))))))
          (pss_one (ps_ret pe_bl))))))
      (pss_one (ps_ret pe_bl))))), ?_⟩
    simp only [tSeq, tAsg, gName, tVar, tC, tOp, tUn, tNil, tCons, tCall, tCB, tBM, tBM0, tSl, tNoPart, tPart, tRet, tRetN, tIf, tIfS, tB, tTest, tDrop, tNext, tTup, tLst, tAnd, tOr, tNot, tNotV, tYes, tIsN, tNotN, rI, rI0, rU, rEq, rNe, rPop, rAppend, rCat, rSetL, rIxL, rIxS, rSlL, tRevL, tFor_eq, tWhile_eq, tLc_eq, iList, iTup, iRng1, iRng2, iStr, iZip, gTup, gCons, gNil, gSub, L2.start, Lay.cx_K, CDiv, CDivN, CPow, List.map_cons, List.map_nil, List.length_cons, List.length_nil, List.replicate_succ, List.replicate_zero, List.cons_append, List.nil_append, List.append_nil, List.set_cons_zero, List.set_cons_succ, List.getElem?_cons_zero, List.getElem?_cons_succ, Option.some.injEq, exists_eq_left', V.int.injEq, V.str.injEq, V.ref.injEq, V.bl.injEq, List.cons.injEq, and_true, true_and, exists_and_left, exists_eq_left, exists_eq, and_assoc, Nat.reduceAdd, Nat.reduceSub, Nat.zero_add, exists_and_right, exists_const, L2.wipe, if_true, if_false, tBits, rLenK, rCopyK, rTupleK, tAndV, tOrV, tNotV, tChain, tMatch, tAsg2, tRevT, rIsiX, rIsX, rNeI, rNum, tPar, tM0, tM1, rEqE, rNeE, Bool.not_true, Bool.not_false, Bool.false_eq_true, N_is_content]
    refine ⟨d, _, rfl, hd, _, kit_tup d, ?_⟩
    rcases tup_cases d with ⟨e, n⟩ | ⟨ds, rfl⟩
    · rw [e]
      refine iteT ?_
      have q := k H (Same.refl H)
      have : isContent d = false := by
        unfold isContent
        split
        · exact absurd rfl (n _)
        · rfl
      rw [this] at q
      exact q
    · refine iteF ?_
      obtain ⟨t, vs, rfl, hs, ha⟩ := hd.seq
      have hl := ha.len
      have main : ∀ H1, Same H H1 → (∀ d, ds[0]? = some d → isWrite d = true) → Loop (Itt K t) (gName 3) (tMatch K (tVar 3) 5 6 4
          (tAnd (tB (tCB (rIsiX K) (tCons (tVar 3) (tCons (tC (V.ty "tuple")) tNil)))) (tB (tCB (rIsiX K) (tCons (tOp (rIxT K) (tVar 3) (tC (V.int 0))) (tCons (tC (V.ty "tuple")) tNil)))))
          (tSeq (tIfS (tOr (tNot (tB (tCB (rIsiX K) (tCons (tVar 6) (tCons (tC (V.ty "int")) tNil))))) (tOr (tNot (tB (tCB (rIsiX K) (tCons (tVar 4) (tCons (tC (V.ty "int")) tNil)))))
              (tOr (tTest (tOp rIsX (tVar 4) (tC (V.bl true)))) (tTest (tOp rIsX (tVar 4) (tC (V.bl false))))))) (tRet (tC (V.bl false))) tNext)
            (tSeq (tIfS (tTest (tOp (rNeI K) (tVar 5) (tVar 1)))
                (tSeq (tIfS (tOr (tNot (tB (tCB (rIsiX K) (tCons (tVar 5) (tCons (tC (V.ty "int")) tNil))))) (tOr (tTest (tOp (rNum fun i j => decide (i < j)) (tVar 5) (tVar 1)))
                    (tOr (tTest (tOp (rNum fun i j => decide (i < j)) (tVar 6) (tC (V.int 0)))) (tTest (tOp rIsX (tVar 6) (tC (V.bl false))))))) (tRet (tC (V.bl false))) tNext)
                  (tAsg (tVar 5) (gName 1)))
                (tIfS (tTest (tOp (rNum fun i j => decide (i ≤ j)) (tVar 6) (tVar 2))) (tRet (tC (V.bl false))) tNext))
              (tSeq (tIfS (tOr (tTest (tOp rIsX (tVar 5) (tC (V.bl true)))) (tOr (tTest (tOp rIsX (tVar 5) (tC (V.bl false)))) (tTest (tOp rIsX (tVar 6) (tC (V.bl true)))))) (tRet (tC (V.bl false))) tNext)
                (tAsg (tVar 6) (gName 2)))))
          (tRet (tC (V.bl false)))) { nx := tRet (tC (V.bl true)) { nx := fun x G' => Q V.non G', rt := Q }, rt := Q }
          [some (.ref t), some (V.int (-1)), some (V.int (-1)), none, none, none, none] H1 := by
        intro H1 s1 first
        refine Loop.tup vs (iC H1 t ds) ⟨-1, -1, _, _, _, _, rfl, Same.refl _, by rw [List.drop_zero], .inr ⟨rfl, rfl, rfl⟩⟩ ?_ ?_ ?_
        · rintro i τ G ⟨lb, lp, b3, b4, b5, b6, rfl, sG, _⟩
          exact sameT (s1.trans sG) hs
        · rintro i x τ G hx ⟨lb, lp, b3, b4, b5, b6, rfl, sG, go, low⟩
          have hi : i < vs.length := (List.getElem?_eq_some_iff.mp hx).1
          have hi2 : i < ds.length := by rw [← hl]; exact hi
          have dr : ds.drop i = ds[i] :: ds.drop (i + 1) := List.drop_eq_getElem_cons hi2
          have hdx : Dx K G x ds[i] := (ha.sub (s1.trans sG)).get i x _ hx (List.getElem?_eq_getElem hi2)
          have f0 : i = 0 → isWrite ds[i] = true := fun e => first _ (by rw [List.getElem?_eq_getElem (by omega)]; congr 1; congr 1; exact e.symm)
          generalize ds[i] = d at dr hdx f0
          rw [dr] at go
          have no : goesOn lb lp (d :: ds.drop (i + 1)) = false → Q (.bl false) G := by
            intro z
            have q := k G (s1.trans sG)
            simp only [isContent] at q
            rw [go, z] at q
            exact q
          simp only [tSeq, tAsg, gName, tVar, tC, tOp, tUn, tNil, tCons, tCall, tCB, tBM, tBM0, tSl, tNoPart, tPart, tRet, tRetN, tIf, tIfS, tB, tTest, tDrop, tNext, tTup, tLst, tAnd, tOr, tNot, tNotV, tYes, tIsN, tNotN, rI, rI0, rU, rEq, rNe, rPop, rAppend, rCat, rSetL, rIxL, rIxS, rSlL, tRevL, tFor_eq, tWhile_eq, tLc_eq, iList, iTup, iRng1, iRng2, iStr, iZip, gTup, gCons, gNil, gSub, L2.start, Lay.cx_K, CDiv, CDivN, CPow, List.map_cons, List.map_nil, List.length_cons, List.length_nil, List.replicate_succ, List.replicate_zero, List.cons_append, List.nil_append, List.append_nil, List.set_cons_zero, List.set_cons_succ, List.getElem?_cons_zero, List.getElem?_cons_succ, Option.some.injEq, exists_eq_left', V.int.injEq, V.str.injEq, V.ref.injEq, V.bl.injEq, List.cons.injEq, and_true, true_and, exists_and_left, exists_eq_left, exists_eq, and_assoc, Nat.reduceAdd, Nat.reduceSub, Nat.zero_add, exists_and_right, exists_const, L2.wipe, if_true, if_false, tBits, rLenK, rCopyK, rTupleK, tAndV, tOrV, tNotV, tChain, tMatch, tAsg2, tRevT, rIsiX, rIsX, rNeI, rNum, tPar, tM0, tM1, rEqE, rNeE, Bool.not_true, Bool.not_false, Bool.false_eq_true]
          by_cases isP : ∃ B P' V', d = .tuple [.tuple [B, P'], V']
          · obtain ⟨B, P', V', rfl⟩ := isP
            obtain ⟨ta, ve, vV, rfl, hta, hde, hdV⟩ := hdx.pair
            obtain ⟨te, vB, vP, rfl, hte, hdB, hdP⟩ := hde.pair
            refine .inl ⟨.ref te, vB, vP, vV, .tup hta, .tup hte, ?_⟩
            refine ⟨_, _, rfl, hdx, _, kit_tup _, iteT ⟨_, _, _, _, rfl, rfl, hta, atI_nat rfl, _, _, rfl, hde, _, kit_tup _, iteT ?_⟩⟩
            have noP := fun h => no (go_false (B := B) (P' := P') (V' := V') h)
            refine ⟨P', _, rfl, hdP, _, kit_int P', ?_⟩
            have pl := hdP.plain
            have vl := hdV.plain
            have bl := hdB.plain
            have okP : (∃ p, P' = .int p ∧ vP = .int p) ∨ (∃ c, P' = .bool c ∧ vP = .bl c) ∨ inInt P' = false := by
              rcases three P' with ⟨p, rfl⟩ | ⟨c, rfl⟩ | ⟨e, _⟩
              · exact .inl ⟨p, rfl, by cases hdP; rfl⟩
              · exact .inr (.inl ⟨c, rfl, by cases hdP; rfl⟩)
              · exact .inr (.inr e)
            by_cases iP : inInt P' = true
            · rw [iP]
              refine iteF ⟨V', _, rfl, hdV, _, kit_int V', ?_⟩
              rcases three V' with ⟨v, rfl⟩ | ⟨c, rfl⟩ | ⟨e, _⟩
              · refine iteF ⟨vl, ?_⟩
                cases hdV
                refine iteF ⟨vl, iteF ⟨B, hdB, ?_⟩⟩
                have okP2 : (∃ p, P' = .int p ∧ vP = .int p) ∨ (∃ c, P' = .bool c ∧ vP = .bl c) := by
                  rcases okP with h | h | h
                  · exact .inl h
                  · exact .inr h
                  · rw [h] at iP; cases iP
                have nz : ∀ c, P' = .bool c → i ≠ 0 := by
                  intro c e z
                  have := f0 z
                  rw [e] at this
                  simp [isWrite, isCell] at this
                rcases three B with ⟨b, rfl⟩ | ⟨c, rfl⟩ | ⟨e, eq⟩
                · cases hdB
                  rcases okP2 with ⟨p, rfl, rfl⟩ | ⟨c, rfl, rfl⟩
                  · have f1 : i = 0 → 0 ≤ b ∧ 0 ≤ p := by
                      intro z
                      have := f0 z
                      simpa [isWrite, isCell, M02.isInt] using this
                    have val : goesOn lb lp (.tuple [.tuple [.int b, .int p], .int v] :: ds.drop (i + 1)) = (decide (0 ≤ b) && decide (0 ≤ p) && (decide (lb < b) || (decide (b = lb) && decide (lp < p))) && goesOn b p (ds.drop (i + 1))) := rfl
                    have tail : 0 ≤ b → 0 ≤ p → (lb < b ∨ (b = lb ∧ lp < p)) → iC H1 t ds (i + 1) [some (V.ref t), some (.int b), some (.int p), some (V.ref ta), some (V.int v), some (.int b), some (.int p)] G := by
                      intro h1 h2 h3
                      refine ⟨b, p, _, _, _, _, rfl, sG, ?_, .inl ⟨h1, h2⟩⟩
                      rw [go, val, decide_eq_true h1, decide_eq_true h2]
                      have : (decide (lb < b) || (decide (b = lb) && decide (lp < p))) = true := by
                        rw [Bool.or_eq_true, Bool.and_eq_true, decide_eq_true_eq, decide_eq_true_eq, decide_eq_true_eq]
                        exact h3
                      rw [this]
                      rfl
                    have bad : ¬(0 ≤ b ∧ 0 ≤ p ∧ (lb < b ∨ (b = lb ∧ lp < p))) → Q (.bl false) G := by
                      intro h
                      refine no ?_
                      rw [val]
                      have : (decide (0 ≤ b) && decide (0 ≤ p) && (decide (lb < b) || (decide (b = lb) && decide (lp < p)))) = false := by
                        rw [← Bool.not_eq_true]
                        intro h4
                        rw [Bool.and_eq_true, Bool.and_eq_true, Bool.or_eq_true, Bool.and_eq_true, decide_eq_true_eq, decide_eq_true_eq, decide_eq_true_eq, decide_eq_true_eq, decide_eq_true_eq] at h4
                        exact h ⟨h4.1.1, h4.1.2, h4.2⟩
                      rw [this]
                      rfl
                    refine ite2 (fun c => ?_) (fun c => ?_)
                    · have ne : b ≠ lb := by
                        rintro rfl
                        simp [PyData.eqv] at c
                      refine ⟨.int b, _, rfl, .int b, _, rfl, ?_⟩
                      refine iteF ⟨b, rfl, ite2 (fun c1 => bad fun h => ?_) (fun c1 => ⟨p, rfl, ite2 (fun c2 => bad fun h => ?_) (fun c2 => ⟨pl, iteF ⟨bl, iteF ⟨bl, iteF ⟨pl, iteF (tail ?_ ?_ ?_)⟩⟩⟩⟩)⟩)⟩
                      · have := of_decide_eq_true c1
                        omega
                      · have := of_decide_eq_true c2
                        omega
                      · have : ¬ b < lb := fun z => c1 (decide_eq_true z)
                        rcases low with l | l
                        · omega
                        · omega
                      · have : ¬ p < 0 := fun z => c2 (decide_eq_true z)
                        omega
                      · have : ¬ b < lb := fun z => c1 (decide_eq_true z)
                        omega
                    · have eb : b = lb := by
                        have : (!PyData.eqv (.int b) (.int lb)) = false := by simpa using c
                        simpa [PyData.eqv] using this
                      subst eb
                      refine ⟨p, rfl, ite2 (fun c1 => bad fun h => ?_) (fun c1 => ⟨bl, iteF ⟨bl, iteF ⟨pl, iteF (tail ?_ ?_ ?_)⟩⟩⟩)⟩
                      · have := of_decide_eq_true c1
                        omega
                      · rcases low with l | l
                        · omega
                        · have := f1 l.1
                          omega
                      · have : ¬ p ≤ lp := fun z => c1 (decide_eq_true z)
                        rcases low with l | l
                        · omega
                        · have := f1 l.1
                          omega
                      · have : ¬ p ≤ lp := fun z => c1 (decide_eq_true z)
                        omega
                  · have z : Q (.bl false) G := noP fun b p v h => by cases h.2.1
                    have l : 0 ≤ lb ∧ 0 ≤ lp := by
                      rcases low with l | l
                      · exact l
                      · exact absurd l.1 (nz c rfl)
                    refine ite2 (fun cc => ?_) (fun cc => ?_)
                    · refine ⟨.int b, _, rfl, .int b, _, rfl, iteF ⟨b, rfl, ite2 (fun c1 => z) (fun c1 => ⟨_, rfl, ite2 (fun c2 => z) (fun c2 => ⟨pl, ?_⟩)⟩)⟩⟩
                      cases c with
                      | false => exact iteT z
                      | true => exact iteF ⟨bl, iteF ⟨bl, iteF ⟨pl, iteT z⟩⟩⟩
                    · refine ⟨_, rfl, ite2 (fun c1 => z) (fun c1 => ⟨bl, iteF ⟨bl, iteF ⟨pl, ?_⟩⟩⟩)⟩
                      cases c with
                      | true => exact iteT z
                      | false =>
                        have : ¬ (0 : Int) ≤ lp := fun z => c1 (decide_eq_true z)
                        omega
                · have z : Q (.bl false) G := noP fun b p v h => by cases h.1
                  cases hdB
                  have nP : ∃ p, numV vP = some p := by
                    rcases okP2 with ⟨p, rfl, rfl⟩ | ⟨c, rfl, rfl⟩
                    · exact ⟨_, rfl⟩
                    · exact ⟨_, rfl⟩
                  obtain ⟨p, nP⟩ := nP
                  have tail : ∀ R : Prop, (V.bl c = V.non ∨ (∃ c_1, V.bl c = V.bl c_1) ∨ (∃ i, V.bl c = V.int i) ∨ (∃ z, V.bl c = V.str z) ∨ ∃ a, V.bl c = V.ref a) ∧ if decide (V.bl c = V.bl true) = true then Q (V.bl false) G else
                      (V.bl c = V.non ∨ (∃ c_1, V.bl c = V.bl c_1) ∨ (∃ i, V.bl c = V.int i) ∨ (∃ z, V.bl c = V.str z) ∨ ∃ a, V.bl c = V.ref a) ∧ if decide (V.bl c = V.bl false) = true then Q (V.bl false) G else R := by
                    intro R
                    cases c with
                    | true => exact ⟨bl, iteT z⟩
                    | false => exact ⟨bl, iteF ⟨bl, iteT z⟩⟩
                  refine ite2 (fun cc => ?_) (fun cc => ?_)
                  · exact ⟨.bool c, _, rfl, .bl c, _, kit_int _, iteF ⟨_, rfl, ite2 (fun _ => z) (fun _ => ⟨p, nP, ite2 (fun _ => z) (fun _ => ⟨pl, ite2 (fun _ => z) (fun _ => tail _)⟩)⟩)⟩⟩
                  · exact ⟨p, nP, ite2 (fun _ => z) (fun _ => tail _)⟩
                · rw [eq]
                  refine iteT ⟨B, _, rfl, hdB, _, kit_int B, ?_⟩
                  rw [e]
                  exact iteT (noP fun b p v h => by rw [h.1] at e; cases e)
              · refine iteF ⟨vl, ?_⟩
                have z := noP fun b p v h => by cases h.2.2
                cases hdV
                cases c with
                | true => exact iteT z
                | false => exact iteF ⟨vl, iteT z⟩
              · rw [e]
                exact iteT (noP fun b p v h => by rw [h.2.2] at e; cases e)
            · have e : inInt P' = false := by simpa using iP
              rw [e]
              exact iteT (noP fun b p v h => by rw [h.2.1] at e; cases e)
          · have z : Q (.bl false) G := by
              refine no ?_
              rcases go_cons lb lp d (ds.drop (i + 1)) with ⟨b, p, v, e, _⟩ | ⟨_, e⟩
              · exact absurd ⟨_, _, _, e⟩ isP
              · exact e
            rcases parts_of hdx with ⟨es, xs, hde, hp, hall⟩ | ⟨_, hp⟩
            · by_cases h2 : xs.length = 2
              · obtain ⟨ve, vV, rfl⟩ := two_of h2
                obtain ⟨e, V', rfl, he, hV⟩ := two_dx hall
                rcases parts_of he with ⟨fs, ys, hfe, hq, hall2⟩ | ⟨_, hq⟩
                · by_cases h3 : ys.length = 2
                  · obtain ⟨vB, vP, rfl⟩ := two_of h3
                    refine .inl ⟨ve, vB, vP, vV, hp, hq, ?_⟩
                    refine ⟨d, _, rfl, hdx, _, kit_tup d, ?_⟩
                    rcases hde with ⟨rfl, ta, rfl, hta⟩ | rfl
                    · refine iteT ⟨_, _, _, _, rfl, rfl, hta, atI_nat rfl, e, _, rfl, he, _, kit_tup e, ?_⟩
                      rcases hfe with ⟨rfl, _⟩ | rfl
                      · obtain ⟨B, P', rfl, _, _⟩ := two_dx hall2
                        exact absurd ⟨_, _, _, rfl⟩ isP
                      · exact iteF z
                    · exact iteF z
                  · refine .inr ⟨⟨_, hp, ?_⟩, z⟩
                    intro p z' e'
                    injection e' with e'
                    injection e' with e1 _
                    subst e1
                    refine ⟨_, hq, fun x y e' => ?_⟩
                    injection e' with e'
                    rw [e'] at h3
                    exact h3 rfl
                · refine .inr ⟨⟨_, hp, ?_⟩, z⟩
                  intro p z' e'
                  injection e' with e'
                  injection e' with e1 _
                  subst e1
                  exact ⟨_, hq, fun x y e' => by cases e'⟩
              · refine .inr ⟨⟨_, hp, ?_⟩, z⟩
                intro p z' e'
                injection e' with e'
                rw [e'] at h2
                exact absurd rfl h2
            · refine .inr ⟨⟨_, hp, ?_⟩, z⟩
              intro p z' e'
              cases e'
        · rintro τ G ⟨lb, lp, b3, b4, b5, b6, rfl, sG, go, low⟩
          have q := k G (s1.trans sG)
          rw [hl, List.drop_length] at go
          simp only [isContent] at q
          rw [go] at q
          simp only [tSeq, tAsg, gName, tVar, tC, tOp, tUn, tNil, tCons, tCall, tCB, tBM, tBM0, tSl, tNoPart, tPart, tRet, tRetN, tIf, tIfS, tB, tTest, tDrop, tNext, tTup, tLst, tAnd, tOr, tNot, tNotV, tYes, tIsN, tNotN, rI, rI0, rU, rEq, rNe, rPop, rAppend, rCat, rSetL, rIxL, rIxS, rSlL, tRevL, tFor_eq, tWhile_eq, tLc_eq, iList, iTup, iRng1, iRng2, iStr, iZip, gTup, gCons, gNil, gSub, L2.start, Lay.cx_K, CDiv, CDivN, CPow, List.map_cons, List.map_nil, List.length_cons, List.length_nil, List.replicate_succ, List.replicate_zero, List.cons_append, List.nil_append, List.append_nil, List.set_cons_zero, List.set_cons_succ, List.getElem?_cons_zero, List.getElem?_cons_succ, Option.some.injEq, exists_eq_left', V.int.injEq, V.str.injEq, V.ref.injEq, V.bl.injEq, List.cons.injEq, and_true, true_and, exists_and_left, exists_eq_left, exists_eq, and_assoc, Nat.reduceAdd, Nat.reduceSub, Nat.zero_add, exists_and_right, exists_const, L2.wipe, if_true, if_false, tBits, rLenK, rCopyK, rTupleK, tAndV, tOrV, tNotV, tChain, tMatch, tAsg2, tRevT, rIsiX, rIsX, rNeI, rNum, tPar, tM0, tM1, rEqE, rNeE, Bool.not_true, Bool.not_false, Bool.false_eq_true]
          exact q
      refine ⟨t, rfl, vs, .inr hs, ?_⟩
      cases vs with
      | nil =>
        refine iteF ⟨t, rfl, ⟨_, hs⟩, main H (Same.refl H) ?_⟩
        intro d e
        have : ds.length = 0 := hl.symm
        rw [List.length_eq_zero_iff.mp this] at e
        cases e
      | cons v0 vr =>
        cases ds with
        | nil => cases hl
        | cons d0 dr =>
          have pos : decide ((0 : Int) < ((v0 :: vr).length : Nat)) = true := decide_eq_true (by simp only [List.length_cons]; omega)
          rw [pos]
          have h0 := ha.get 0 v0 d0 rfl rfl
          refine iteT ⟨_, _, _, _, rfl, rfl, hs, atI_nat rfl, v0, d0, rfl, h0, ?_, fun H1 s1 => ⟨_, rfl, ?_⟩⟩
          · simp only [wt, wtAll] at hw
            omega
          · refine ite2 (fun c => ?_) (fun c => ⟨t, rfl, ⟨_, sameT s1 hs⟩, main H1 s1 ?_⟩)
            · have q := k H1 s1
              have : isContent (.tuple (d0 :: dr)) = false := by
                show goesOn (-1) (-1) (d0 :: dr) = false
                have cf : isWrite d0 = false := by simpa using c
                rcases go_cons (-1) (-1) d0 dr with ⟨b, p, v, rfl, e⟩ | ⟨_, e⟩
                · rw [e]
                  simp only [isWrite, isCell, M02.isInt, Bool.and_true] at cf
                  rw [cf]
                  rfl
                · exact e
              rw [this] at q
              exact q
            · intro d e
              cases e
              simpa using c
end
end C02
namespace C02
open PySem PySem.Spec PyProof.Rows L2 Lay M02
/-- the block of the last part -/
def lastB : Int → List PyData → Int
  | b, [] => b
  | _, .tuple (.tuple (.int a :: _) :: _) :: r => lastB a r
  | b, _ :: r => lastB b r
theorem go_block : ∀ (r : List PyData) (b p : Int), goesOn b p r = true → b ≤ lastB b r ∧ oneBlock b r = decide (lastB b r = b)
  | [], b, p, _ => ⟨Int.le_refl _, by simp [oneBlock, lastB]⟩
  | d :: r, b, p, h => by
    rcases go_cons b p d r with ⟨b2, p2, v2, rfl, e⟩ | ⟨_, e⟩
    · rw [e] at h
      simp only [Bool.and_eq_true, Bool.or_eq_true, decide_eq_true_eq] at h
      obtain ⟨⟨⟨h1, h2⟩, h3⟩, h4⟩ := h
      obtain ⟨i1, i2⟩ := go_block r b2 p2 h4
      show b ≤ lastB b2 r ∧ (decide (b2 = b) && oneBlock b r) = decide (lastB b2 r = b)
      refine ⟨by omega, ?_⟩
      by_cases e2 : b2 = b
      · subst e2
        rw [i2, decide_eq_true rfl, Bool.true_and]
      · rw [decide_eq_false e2, Bool.false_and, decide_eq_false]
        omega
    · rw [e] at h
      cases h
theorem go_last : ∀ (r : List PyData) (d : PyData) (lb lp b : Int), goesOn lb lp (d :: r) = true → ∃ x p v, (d :: r)[r.length]? = some (.tuple [.tuple [.int x, .int p], .int v]) ∧ x = lastB b (d :: r)
  | [], d, lb, lp, b, h => by
    rcases go_cons lb lp d [] with ⟨b2, p2, v2, rfl, e⟩ | ⟨_, e⟩
    · exact ⟨b2, p2, v2, rfl, rfl⟩
    · rw [e] at h; cases h
  | d2 :: r, d, lb, lp, b, h => by
    rcases go_cons lb lp d (d2 :: r) with ⟨b2, p2, v2, rfl, e⟩ | ⟨_, e⟩
    · rw [e] at h
      simp only [Bool.and_eq_true] at h
      obtain ⟨x, p, v, h1, h2⟩ := go_last r d2 b2 p2 b2 h.2
      exact ⟨x, p, v, by simpa using h1, h2⟩
    · rw [e] at h; cases h
theorem end_eq {K : PySem.W.Frag} {H G : Hp} {L : Addr} {acc : List V} {b : Bool} {Q : VK} (sG : Same H G) (hG : G L = some (.lst acc)) (k : ∀ H', Same H H' → Q (.bl b) H') (e : acc.isEmpty = b) :
    0 ≤ sizeLine ∧ ∀ p, G p = none → ∃ a, V.ref L = V.ref a ∧ ∃ x, ((SqT K (upd G p (.lst [])) a x ∧ SqT K (upd G p (.lst [])) p []) ∨ (SqL K (upd G p (.lst [])) a x ∧ SqL K (upd G p (.lst [])) p [])) ∧ Q (.bl x.isEmpty) (upd G p (.lst [])) :=
  ⟨Nat.zero_le _, fun p hp => ⟨L, rfl, acc, .inr ⟨.inl (.inl (same_upd hp _ _ hG)), .inl (.inl upd_same)⟩, by rw [e]; exact k _ (sameU sG hp)⟩⟩
theorem all_take {α : Type} {l : List α} {i : Nat} {d : α} (h : l[i]? = some d) (f : α → Bool) : (l.take (i + 1)).all f = ((l.take i).all f && f d) := by
  rw [List.take_add_one, h]
  simp
theorem snoc_ne (acc : List V) (x : V) : (acc ++ [x]).isEmpty = false := by cases acc <;> rfl
def nonneg : PyData → Bool
  | .int i => decide (0 ≤ i)
  | _ => false
theorem go_false' {lb lp : Int} {c z : PyData} {r : List PyData} (h : isCell c = false ∨ M02.isInt z = false) : goesOn lb lp (.tuple [c, z] :: r) = false := by
  rcases go_cons lb lp (.tuple [c, z]) r with ⟨b, p, v, e, e2⟩ | ⟨_, e⟩
  · injection e with e
    injection e with e1 e
    injection e with e3 _
    subst e1 e3
    rw [e2]
    rcases h with h | h
    · simp only [isCell] at h
      rw [h]
      rfl
    · cases h
  · exact e
theorem not_name {a c : PyData} (z : isName a = false) : isChange (.tuple [a, c]) = false := by
  unfold isChange
  split
  · rename_i e
    injection e with e
    injection e with e _
    subst e
    rw [z]
    rfl
  · rfl
theorem not_content {a c : PyData} (z : isContent c = false) : isChange (.tuple [a, c]) = false := by
  unfold isChange
  split
  · rename_i e
    injection e with e
    injection e with _ e
    injection e with e _
    subst e
    simp only [isContent] at z
    rw [z, Bool.and_false, Bool.false_and]
  · rfl
section
variable {P : Program} {w : World} {K : PySem.W.Frag} {mg : Str → Option Value} {base : Heap}
theorem ok_is_change {f : Addr} {fd : FuncData} (F : Fun K "is_change" "is_change" s_is_change f fd) (z_len : mg "len" = none) 
    (D_is_pair : Has P w K mg base 1 "is_pair" ["thing"] (sp_is K isPair))
    (D_is_name : Has P w K mg base 1 "is_name" ["thing"] (sp_is K isName))
    (D_is_content : Has P w K mg base 4 "is_content" ["thing"] (sp_is K isContent)) :
    FnG P w K mg base CX0 5 f fd ["thing"] (sp_is K isChange) := by
  refine okG F sc_is_change (fun vs H Q E h => ?_) (fun cdv A outer s H vs Q E hr hq h => ?_)
  · obtain ⟨v, d, rfl, _⟩ := h
    rfl
  · obtain ⟨v, d, rfl, hd, hw, k⟩ := h
    have nd := sc_is_change.nd
    refine ⟨_, (pss_cons (ps_if (pt_not (PW.pt (pw_and (pt_val (pe_c D_is_pair (hr.mono (by decide)) hq (pa_cons (pv 0) pa_nil))) (pw_and (pt_val (pe_c D_is_name (hr.mono (by decide)) hq (pa_cons (pe_ix (ixTK K) (pv 0) pe_int (fun _ _ => rfl)) pa_nil))) (pw_and (pt_val (pe_c D_is_content (hr.mono (by decide)) hq (pa_cons (pe_ix (ixTK K) (pv 0) pe_int (fun _ _ => rfl)) pa_nil))) (pw_and1 (pt_cmpR op_gt (pe_callB (lenK K) (by rfl) z_len (by decide +kernel) (pa_cons (pe_ix (ixTK K) (pv 0) pe_int (fun _ _ => rfl)) pa_nil)) pe_int (nomark _)))))))) (pss_one (ps_ret pe_bl)) pss_nil)
      (pss_cons (ps_par (i := 1) (j := 2) (by rfl) nd rfl rfl (by decide) rfl rfl (pa_cons (pe_ix (ixTK K) (pe_ix (ixTK K) (pe_ix (ixTK K) (pv 0) pe_int (fun _ _ => rfl)) pe_int (fun _ _ => rfl)) pe_int (fun _ _ => rfl)) (pa_cons (pe_ix (ixTK K) (pe_ix (ixTK K) (pe_ix (ixTK K) (pv 0) pe_int (fun _ _ => rfl)) (pe_un un_neg pe_int) (fun _ _ => rfl)) pe_int (fun _ _ => rfl)) pa_nil)) (by rfl))
      (pss_one (ps_ret (pe_cmpR op_eq (pe_ix (ixTK K) (pv 1) pe_int (fun _ _ => rfl)) (pe_ix (ixTK K) (pv 2) pe_int (fun _ _ => rfl)) (nomark _)))))), ?_⟩
    simp only [tSeq, tAsg, gName, tVar, tC, tOp, tUn, tNil, tCons, tCall, tCB, tBM, tBM0, tSl, tNoPart, tPart, tRet, tRetN, tIf, tIfS, tB, tTest, tDrop, tNext, tTup, tLst, tAnd, tOr, tNot, tNotV, tYes, tIsN, tNotN, rI, rI0, rU, rEq, rNe, rPop, rAppend, rCat, rSetL, rIxL, rIxS, rSlL, tRevL, tFor_eq, tWhile_eq, tLc_eq, iList, iTup, iRng1, iRng2, iStr, iZip, gTup, gCons, gNil, gSub, L2.start, Lay.cx_K, CDiv, CDivN, CPow, List.map_cons, List.map_nil, List.length_cons, List.length_nil, List.replicate_succ, List.replicate_zero, List.cons_append, List.nil_append, List.append_nil, List.set_cons_zero, List.set_cons_succ, List.getElem?_cons_zero, List.getElem?_cons_succ, Option.some.injEq, exists_eq_left', V.int.injEq, V.str.injEq, V.ref.injEq, V.bl.injEq, List.cons.injEq, and_true, true_and, exists_and_left, exists_eq_left, exists_eq, and_assoc, Nat.reduceAdd, Nat.reduceSub, Nat.zero_add, exists_and_right, exists_const, L2.wipe, if_true, if_false, tBits, rLenK, rCopyK, rTupleK, tAndV, tOrV, tNotV, tChain, tMatch, tAsg2, tRevT, rIsiX, rIsX, rNeI, rNum, tPar, tM0, tM1, rEqE, rNeE, Bool.not_true, Bool.not_false, Bool.false_eq_true, N_is_change]
    refine ⟨v, d, rfl, hd, hw, fun H1 s1 => ⟨_, rfl, ?_⟩⟩
    rcases pair_cases d with ⟨e, n⟩ | ⟨a, c, rfl⟩
    · rw [e]
      refine iteF ?_
      have q := k H1 s1
      rw [not_change n] at q
      exact q
    · obtain ⟨t, va, vc, rfl, hs, ha, hc⟩ := hd.pair
      obtain ⟨wa, wc⟩ := wt_pair hw
      have noN : isName a = false → isChange (.tuple [a, c]) = false := by
        intro z
        unfold isChange
        split
        · rename_i e
          injection e with e
          injection e with e _
          subst e
          rw [z]
          rfl
        · rfl
      have noC : isContent c = false → isChange (.tuple [a, c]) = false := by
        intro z
        unfold isChange
        split
        · rename_i e
          injection e with e
          injection e with _ e
          injection e with e _
          subst e
          simp only [isContent] at z
          rw [z, Bool.and_false, Bool.false_and]
        · rfl
      refine iteT ⟨_, _, _, _, rfl, rfl, sameT s1 hs, atI_nat rfl, va, a, rfl, ha.sub s1, wa, fun H2 s2 => ⟨_, rfl, ?_⟩⟩
      have s12 := s1.trans s2
      refine ite2 (fun cn => ?_) (fun cn => ?_)
      · refine ⟨_, _, _, _, rfl, rfl, sameT s12 hs, atI_nat rfl, vc, c, rfl, hc.sub s12, wc, fun H3 s3 => ⟨_, rfl, ?_⟩⟩
        have s13 := s12.trans s3
        refine ite2 (fun cc => ?_) (fun cc => ?_)
        · obtain ⟨ds, rfl⟩ : ∃ ds, c = .tuple ds := by
            rcases tup_cases c with ⟨_, n⟩ | h
            · unfold isContent at cc
              split at cc
              · exact ⟨_, rfl⟩
              · cases cc
            · exact h
          obtain ⟨tc, vs, rfl, hsc, hal⟩ := hc.seq
          have hl := hal.len
          refine ⟨_, _, _, _, rfl, rfl, sameT s13 hs, atI_nat rfl, tc, rfl, vs, .inr (sameT s13 hsc), ?_⟩
          have q := k H3 s13
          cases ds with
          | nil =>
            have : vs = [] := List.length_eq_zero_iff.mp hl
            subst this
            exact iteT q
          | cons d0 r =>
            simp only [isContent] at cc
            cases vs with
            | nil => cases hl
            | cons v0 vr =>
              have pos : (!decide ((0 : Int) < ((v0 :: vr).length : Nat))) = false := by
                rw [decide_eq_true (by simp only [List.length_cons]; omega)]
                rfl
              rw [pos]
              rcases go_cons (-1) (-1) d0 r with ⟨b, p, z, rfl, e⟩ | ⟨_, e⟩
              · obtain ⟨x, p2, z2, hlast, hx⟩ := go_last r _ (-1) (-1) b cc
                rw [e] at cc
                simp only [Bool.and_eq_true] at cc
                have blk := go_block r b p cc.2
                have hx' : x = lastB b r := hx
                have vl : vr.length = r.length := by simpa using hl
                have hvl : ∃ w', (v0 :: vr)[r.length]? = some w' := ⟨_, List.getElem?_eq_getElem (by simp only [List.length_cons]; omega)⟩
                obtain ⟨w', hw'⟩ := hvl
                have hal3 := hal.sub s13
                have dw := hal3.get r.length w' _ hw' hlast
                have d0x := hal3.get 0 v0 _ rfl rfl
                obtain ⟨t0, vA, vB, rfl, ht0, hA, _⟩ := d0x.pair
                obtain ⟨t1, vC, vD, rfl, ht1, hC, _⟩ := hA.pair
                obtain ⟨t2, wA, wB, rfl, ht2, hA2, _⟩ := dw.pair
                obtain ⟨t3, wC, wD, rfl, ht3, hC2, _⟩ := hA2.pair
                obtain rfl := hC.int_inv
                obtain rfl := hC2.int_inv
                have lastAt : atI (V.ref t0 :: vr) (-1) = some (.ref t2) := by
                  have e1 : (V.ref t0 :: vr) = (V.ref t0 :: vr).dropLast ++ [.ref t2] := by
                    have h1 := List.dropLast_concat_getLast (l := V.ref t0 :: vr) (by simp)
                    have h2 : (V.ref t0 :: vr).getLast (by simp) = .ref t2 := by
                      have h3 := List.getLast?_eq_getElem? (l := V.ref t0 :: vr)
                      rw [List.getLast?_eq_getLast (by simp)] at h3
                      have h4 : (V.ref t0 :: vr).length - 1 = r.length := by simp [vl]
                      rw [h4, hw'] at h3
                      exact Option.some.inj h3
                    rw [h2] at h1
                    exact h1.symm
                  rw [e1]
                  exact atI_last _ _
                refine iteF ⟨_, _, _, _, rfl, rfl, sameT s13 hs, atI_nat rfl, _, _, _, _, rfl, rfl, sameT s13 hsc, atI_nat rfl, _, _, _, _, rfl, rfl, ht0, atI_nat rfl,
                  _, _, _, _, rfl, rfl, sameT s13 hs, atI_nat rfl, _, _, _, _, rfl, rfl, sameT s13 hsc, lastAt, _, _, _, _, rfl, rfl, ht2, atI_nat rfl,
                  _, _, _, _, rfl, rfl, ht1, atI_nat rfl, _, _, _, _, rfl, rfl, ht3, atI_nat rfl, rfl, ?_⟩
                have val : isChange (.tuple [a, .tuple (.tuple [.tuple [.int b, .int p], .int z] :: r)]) = decide (V.int b = V.int x) := by
                  show (isName a && goesOn (-1) (-1) (.tuple [.tuple [.int b, .int p], .int z] :: r) && oneBlock b r) = _
                  rw [cn, e, blk.2, hx', cc.1.1.1, cc.1.1.2, cc.1.2, cc.2]
                  simp only [Bool.and_self, Bool.true_and, V.int.injEq]
                  rw [Bool.eq_iff_iff, decide_eq_true_eq, decide_eq_true_eq]
                  exact eq_comm
                rw [val] at q
                exact q
              · rw [e] at cc
                cases cc
        · have q := k H3 s13
          rw [noC (by simpa using cc)] at q
          exact q
      · have q := k H2 s12
        rw [noN (by simpa using cn)] at q
        exact q
theorem ok_law_is_cell {f : Addr} {fd : FuncData} (F : Fun K "_law_is_cell" "_law_is_cell" s_law_is_cell f fd) (z_isinstance : mg "isinstance" = none) (z_tuple : mg "tuple" = none) (z_len : mg "len" = none) 
    (D_law_whole : Has P w K mg base 1 "_law_whole" ["_law_it"] (sp_is K M02.isInt)) :
    FnG P w K mg base CX0 2 f fd ["_law_it"] (sp_is K isCell) := by
  refine okG F sc_law_is_cell (fun vs H Q E h => ?_) (fun cdv A outer s H vs Q E hr hq h => ?_)
  · obtain ⟨v, d, rfl, _⟩ := h
    rfl
  · obtain ⟨v, d, rfl, hd, hw, k⟩ := h
    have nd := sc_law_is_cell.nd
    refine ⟨_, (pss_cons (ps_if (PW.pt (pw_or (pt_not (pt_val (pe_callB (isiXK K) (by rfl) z_isinstance (by decide +kernel) (pa_cons (pv 0) (pa_cons (pe_bltn (v := .ty "tuple") (u := .type "tuple") (by rfl) z_tuple (by decide +kernel) rfl) pa_nil))))) (pw_or1 (pt_cmpR op_ne (pe_callB (lenK K) (by rfl) z_len (by decide +kernel) (pa_cons (pv 0) pa_nil)) pe_int (nomark _))))) (pss_one (ps_ret pe_bl)) pss_nil)
      (pss_one (ps_ret (pe_cmpR (eqEK K hr.units) (pe_lc (own := [("_law_one_here", 1)]) (g := gName 1) rfl nd (piT K (pi_tup (pv 0))) (blkOk_by (own := [("_law_one_here", 1)]) (N := N_law_is_cell) (sc := defScope s_law_is_cell) (by decide +kernel)) (fun _ _ _ _ _ => (pg_name (i := 1) nd rfl (by first | exact Or.inl rfl | exact Or.inr rfl))) (fun _ _ _ _ _ => (pts_one (PW.pt (pw_or (pt_not (pt_val (pe_c D_law_whole (hr.mono (by decide)) hq (pa_cons (pv 1) pa_nil)))) (pw_or1 (pt_cmpR op_lt (pv 1) pe_int (nomark _))))))) (fun _ _ _ _ _ => (pv 1))) (pe_lst pa_nil) (nomark _))))), ?_⟩
    simp only [tSeq, tAsg, gName, tVar, tC, tOp, tUn, tNil, tCons, tCall, tCB, tBM, tBM0, tSl, tNoPart, tPart, tRet, tRetN, tIf, tIfS, tB, tTest, tDrop, tNext, tTup, tLst, tAnd, tOr, tNot, tNotV, tYes, tIsN, tNotN, rI, rI0, rU, rEq, rNe, rPop, rAppend, rCat, rSetL, rIxL, rIxS, rSlL, tRevL, tFor_eq, tWhile_eq, tLc_eq, iList, iTup, iRng1, iRng2, iStr, iZip, gTup, gCons, gNil, gSub, L2.start, Lay.cx_K, CDiv, CDivN, CPow, List.map_cons, List.map_nil, List.length_cons, List.length_nil, List.replicate_succ, List.replicate_zero, List.cons_append, List.nil_append, List.append_nil, List.set_cons_zero, List.set_cons_succ, List.getElem?_cons_zero, List.getElem?_cons_succ, Option.some.injEq, exists_eq_left', V.int.injEq, V.str.injEq, V.ref.injEq, V.bl.injEq, List.cons.injEq, and_true, true_and, exists_and_left, exists_eq_left, exists_eq, and_assoc, Nat.reduceAdd, Nat.reduceSub, Nat.zero_add, exists_and_right, exists_const, L2.wipe, if_true, if_false, tBits, rLenK, rCopyK, rTupleK, tAndV, tOrV, tNotV, tChain, tMatch, tAsg2, tRevT, rIsiX, rIsX, rNeI, rNum, tPar, tM0, tM1, rEqE, rNeE, Bool.not_true, Bool.not_false, Bool.false_eq_true, N_law_is_cell]
    refine ⟨d, _, rfl, hd, _, kit_tup d, ?_⟩
    rcases tup_cases d with ⟨e, n⟩ | ⟨ds, rfl⟩
    · rw [e]
      refine iteT ?_
      have q := k H (Same.refl H)
      rw [not_cell (fun a b e => n _ e)] at q
      exact q
    · obtain ⟨t, vs, rfl, hs, ha⟩ := hd.seq
      have hl := ha.len
      refine iteF ⟨t, rfl, vs, .inr hs, rfl, ?_⟩
      refine ite2 (fun c => ?_) (fun c => ?_)
      · have q := k H (Same.refl H)
        have : isCell (.tuple ds) = false := by
          refine not_cell fun a b e => ?_
          injection e with e
          rw [e] at hl
          rw [hl] at c
          cases c
        rw [this] at q
        exact q
      · have l2 : vs.length = 2 := by
          have : decide (((vs.length : Nat) : Int) = 2) = true := by simpa using c
          have := of_decide_eq_true this
          omega
        obtain ⟨va, vb, rfl⟩ := two_of l2
        obtain ⟨a, b, rfl, hda, hdb⟩ := two_dx ha
        refine ⟨t, rfl, ⟨_, hs⟩, fun L hL => ?_⟩
        refine CLoop.tup [va, vb] (fun i acc G => Same H G ∧ acc.length ≤ i ∧ acc.isEmpty = ([a, b].take i).all nonneg) ⟨same_upd hL, Nat.zero_le _, rfl⟩ upd_same ?_ ?_ ?_
        · rintro i acc G ⟨sG, _, _⟩ _
          exact sameT sG hs
        · rintro i x acc G hx ⟨sG, la, em⟩ hG N hN
          have hi : i < 2 := (List.getElem?_eq_some_iff.mp hx).1
          obtain ⟨d, hdi⟩ : ∃ d, [a, b][i]? = some d := ⟨_, List.getElem?_eq_getElem (by simpa using hi)⟩
          have dx := (ha.sub sG).get i x d hx hdi
          have wd : wt d ≤ 1000000 := by
            have := wtAll_mem [a, b] d (List.mem_of_getElem? hdi)
            simp only [wt] at hw
            omega
          have tk := all_take hdi nonneg
          simp only [tSeq, tAsg, gName, tVar, tC, tOp, tUn, tNil, tCons, tCall, tCB, tBM, tBM0, tSl, tNoPart, tPart, tRet, tRetN, tIf, tIfS, tB, tTest, tDrop, tNext, tTup, tLst, tAnd, tOr, tNot, tNotV, tYes, tIsN, tNotN, rI, rI0, rU, rEq, rNe, rPop, rAppend, rCat, rSetL, rIxL, rIxS, rSlL, tRevL, tFor_eq, tWhile_eq, tLc_eq, iList, iTup, iRng1, iRng2, iStr, iZip, gTup, gCons, gNil, gSub, L2.start, Lay.cx_K, CDiv, CDivN, CPow, List.map_cons, List.map_nil, List.length_cons, List.length_nil, List.replicate_succ, List.replicate_zero, List.cons_append, List.nil_append, List.append_nil, List.set_cons_zero, List.set_cons_succ, List.getElem?_cons_zero, List.getElem?_cons_succ, Option.some.injEq, exists_eq_left', V.int.injEq, V.str.injEq, V.ref.injEq, V.bl.injEq, List.cons.injEq, and_true, true_and, exists_and_left, exists_eq_left, exists_eq, and_assoc, Nat.reduceAdd, Nat.reduceSub, Nat.zero_add, exists_and_right, exists_const, L2.wipe, if_true, if_false, tBits, rLenK, rCopyK, rTupleK, tAndV, tOrV, tNotV, tChain, tMatch, tAsg2, tRevT, rIsiX, rIsX, rNeI, rNum, tPar, tM0, tM1, rEqE, rNeE, Bool.not_true, Bool.not_false, Bool.false_eq_true]
          refine ⟨x, d, rfl, dx, wd, fun G2 s2 => ⟨_, rfl, ?_⟩⟩
          have bad : nonneg d = false → ∃ a, G2 L = some (.lst a) ∧ a.length < sizeLine ∧ N (upd G2 L (.lst (a ++ [x]))) := by
            intro z
            refine ⟨acc, s2 _ _ hG, ltline _ (by omega), hN (acc ++ [x]) _ ⟨sameU' (sG.trans s2) hL, by simp only [List.length_append, List.length_singleton]; omega, ?_⟩ upd_same⟩
            rw [snoc_ne, tk, z, Bool.and_false]
          rcases int_cases d with ⟨e, n⟩ | ⟨j, rfl⟩
          · rw [e]
            refine iteT (bad ?_)
            unfold nonneg
            split
            · exact absurd rfl (n _)
            · rfl
          · obtain rfl := dx.int_inv
            refine iteF ⟨j, rfl, ite2 (fun c => bad ?_) (fun c => hN acc _ ⟨sG.trans s2, by omega, ?_⟩ (s2 _ _ hG))⟩
            · have := of_decide_eq_true c
              exact decide_eq_false (by omega)
            · have : ¬ j < 0 := fun z => c (decide_eq_true z)
              have g : nonneg (.int j) = true := decide_eq_true (by omega)
              rw [tk, g, Bool.and_true]
              exact em
        · rintro acc G ⟨sG, la, em⟩ hG
          refine end_eq sG hG k ?_
          rw [em]
          show ([a, b] : List PyData).all nonneg = _
          unfold isCell
          split
          · rename_i e
            injection e with e
            injection e with e1 e
            injection e with e2 _
            subst e1 e2
            simp [nonneg]
          · rename_i n
            rcases int_cases a with ⟨_, n1⟩ | ⟨i, rfl⟩
            · have : nonneg a = false := by
                unfold nonneg
                split
                · exact absurd rfl (n1 _)
                · rfl
              simp [this]
            · rcases int_cases b with ⟨_, n1⟩ | ⟨j, rfl⟩
              · have : nonneg b = false := by
                  unfold nonneg
                  split
                  · exact absurd rfl (n1 _)
                  · rfl
                simp [this]
              · exact absurd rfl (n _ _)
theorem ok_law_is_content {f : Addr} {fd : FuncData} (F : Fun K "_law_is_content" "_law_is_content" s_law_is_content f fd) (z_isinstance : mg "isinstance" = none) (z_tuple : mg "tuple" = none) (z_len : mg "len" = none) 
    (D_law_whole : Has P w K mg base 1 "_law_whole" ["_law_it"] (sp_is K M02.isInt))
    (D_law_is_cell : Has P w K mg base 2 "_law_is_cell" ["_law_it"] (sp_is K isCell)) :
    FnG P w K mg base CX0 3 f fd ["_law_it"] (sp_is K isContent) := by
  refine okG F sc_law_is_content (fun vs H Q E h => ?_) (fun cdv A outer s H vs Q E hr hq h => ?_)
  · obtain ⟨v, d, rfl, _⟩ := h
    rfl
  · obtain ⟨v, d, rfl, hd, hw, k⟩ := h
    have nd := sc_law_is_content.nd
    refine ⟨_, (pss_cons (ps_if (pt_not (pt_val (pe_callB (isiXK K) (by rfl) z_isinstance (by decide +kernel) (pa_cons (pv 0) (pa_cons (pe_bltn (v := .ty "tuple") (u := .type "tuple") (by rfl) z_tuple (by decide +kernel) rfl) pa_nil))))) (pss_one (ps_ret pe_bl)) pss_nil)
      (pss_cons (ps_set (i := 1) nd rfl (Or.inl rfl) (pe_tup (pa_cons (pe_un un_neg pe_int) (pa_cons (pe_un un_neg pe_int) pa_nil))))
      (pss_cons (ps_for PassesOwn.never rfl (piT K (pi_tup (pv 0))) (pg_name (i := 2) nd rfl (Or.inl rfl))
        (pss_cons (ps_if (PW.pt (pw_or (pt_not (pt_val (pe_callB (isiXK K) (by rfl) z_isinstance (by decide +kernel) (pa_cons (pv 2) (pa_cons (pe_bltn (v := .ty "tuple") (u := .type "tuple") (by rfl) z_tuple (by decide +kernel) rfl) pa_nil))))) (pw_or (pt_cmpR op_ne (pe_callB (lenK K) (by rfl) z_len (by decide +kernel) (pa_cons (pv 2) pa_nil)) pe_int (nomark _)) (pw_or (pt_not (pt_val (pe_c D_law_is_cell (hr.mono (by decide)) hq (pa_cons (pe_ix (ixTK K) (pv 2) pe_int (fun _ _ => rfl)) pa_nil)))) (pw_or1 (pt_not (pt_val (pe_c D_law_whole (hr.mono (by decide)) hq (pa_cons (pe_ix (ixTK K) (pv 2) pe_int (fun _ _ => rfl)) pa_nil))))))))) (pss_one (ps_ret pe_bl)) pss_nil)
        (pss_cons (ps_if (pt_not (pt_cmpR (ltTK K hr.units0) (pv 1) (pe_ix (ixTK K) (pv 2) pe_int (fun _ _ => rfl)) (nomark _))) (pss_one (ps_ret pe_bl)) pss_nil)
        (pss_one (ps_set (i := 1) nd rfl (Or.inl rfl) (pe_ix (ixTK K) (pv 2) pe_int (fun _ _ => rfl)))))))
      (pss_one (ps_ret pe_bl))))), ?_⟩
    simp only [tSeq, tAsg, gName, tVar, tC, tOp, tUn, tNil, tCons, tCall, tCB, tBM, tBM0, tSl, tNoPart, tPart, tRet, tRetN, tIf, tIfS, tB, tTest, tDrop, tNext, tTup, tLst, tAnd, tOr, tNot, tNotV, tYes, tIsN, tNotN, rI, rI0, rU, rEq, rNe, rPop, rAppend, rCat, rSetL, rIxL, rIxS, rSlL, tRevL, tFor_eq, tWhile_eq, tLc_eq, iList, iTup, iRng1, iRng2, iStr, iZip, gTup, gCons, gNil, gSub, L2.start, Lay.cx_K, CDiv, CDivN, CPow, List.map_cons, List.map_nil, List.length_cons, List.length_nil, List.replicate_succ, List.replicate_zero, List.cons_append, List.nil_append, List.append_nil, List.set_cons_zero, List.set_cons_succ, List.getElem?_cons_zero, List.getElem?_cons_succ, Option.some.injEq, exists_eq_left', V.int.injEq, V.str.injEq, V.ref.injEq, V.bl.injEq, List.cons.injEq, and_true, true_and, exists_and_left, exists_eq_left, exists_eq, and_assoc, Nat.reduceAdd, Nat.reduceSub, Nat.zero_add, exists_and_right, exists_const, L2.wipe, if_true, if_false, tBits, rLenK, rCopyK, rTupleK, tAndV, tOrV, tNotV, tChain, tMatch, tAsg2, tRevT, rIsiX, rIsX, rNeI, rNum, tPar, tM0, tM1, rEqE, rNeE, Bool.not_true, Bool.not_false, Bool.false_eq_true, N_law_is_content]
    refine ⟨d, _, rfl, hd, _, kit_tup d, ?_⟩
    rcases tup_cases d with ⟨e, n⟩ | ⟨ds, rfl⟩
    · rw [e]
      refine iteT ?_
      have q := k H (Same.refl H)
      have : isContent d = false := by
        unfold isContent
        split
        · exact absurd rfl (n _)
        · rfl
      rw [this] at q
      exact q
    · obtain ⟨t, vs, rfl, hs, ha⟩ := hd.seq
      have hl := ha.len
      refine iteF ⟨line _, fun p0 hp0 => ⟨t, rfl, ⟨_, sameT (same_upd hp0) hs⟩, ?_⟩⟩
      refine Loop.tup vs (fun i τ G => ∃ (pl : Addr) (lb lp : Int) (b2 : Option V), τ = [some (.ref t), some (.ref pl), b2] ∧ Same H G ∧ SqT K G pl [.int lb, .int lp] ∧ goesOn (-1) (-1) ds = goesOn lb lp (ds.drop i))
        ⟨p0, -1, -1, _, rfl, same_upd hp0, .inl (.inl upd_same), by rw [List.drop_zero]⟩ ?_ ?_ ?_
      · rintro i τ G ⟨pl, lb, lp, b2, rfl, sG, _⟩
        exact sameT sG hs
      · rintro i x τ G hx ⟨pl, lb, lp, b2, rfl, sG, hpl, go⟩
        have hi : i < vs.length := (List.getElem?_eq_some_iff.mp hx).1
        have hi2 : i < ds.length := by rw [← hl]; exact hi
        have dr : ds.drop i = ds[i] :: ds.drop (i + 1) := List.drop_eq_getElem_cons hi2
        have hdx : Dx K G x ds[i] := (ha.sub sG).get i x _ hx (List.getElem?_eq_getElem hi2)
        have wd : wt ds[i] ≤ 1000000 := by
          have := wtAll_mem ds _ (List.getElem_mem hi2)
          simp only [wt] at hw
          omega
        generalize ds[i] = d at dr hdx wd
        rw [dr] at go
        have no : ∀ G2, Same G G2 → goesOn lb lp (d :: ds.drop (i + 1)) = false → Q (.bl false) G2 := by
          intro G2 s2 z
          have q := k G2 (sG.trans s2)
          simp only [isContent] at q
          rw [go, z] at q
          exact q
        have noc : (∀ b p v, d ≠ .tuple [.tuple [.int b, .int p], .int v]) → goesOn lb lp (d :: ds.drop (i + 1)) = false := by
          intro n
          rcases go_cons lb lp d (ds.drop (i + 1)) with ⟨b, p, v, e, _⟩ | ⟨_, e⟩
          · exact absurd e (n _ _ _)
          · exact e
        simp only [tSeq, tAsg, gName, tVar, tC, tOp, tUn, tNil, tCons, tCall, tCB, tBM, tBM0, tSl, tNoPart, tPart, tRet, tRetN, tIf, tIfS, tB, tTest, tDrop, tNext, tTup, tLst, tAnd, tOr, tNot, tNotV, tYes, tIsN, tNotN, rI, rI0, rU, rEq, rNe, rPop, rAppend, rCat, rSetL, rIxL, rIxS, rSlL, tRevL, tFor_eq, tWhile_eq, tLc_eq, iList, iTup, iRng1, iRng2, iStr, iZip, gTup, gCons, gNil, gSub, L2.start, Lay.cx_K, CDiv, CDivN, CPow, List.map_cons, List.map_nil, List.length_cons, List.length_nil, List.replicate_succ, List.replicate_zero, List.cons_append, List.nil_append, List.append_nil, List.set_cons_zero, List.set_cons_succ, List.getElem?_cons_zero, List.getElem?_cons_succ, Option.some.injEq, exists_eq_left', V.int.injEq, V.str.injEq, V.ref.injEq, V.bl.injEq, List.cons.injEq, and_true, true_and, exists_and_left, exists_eq_left, exists_eq, and_assoc, Nat.reduceAdd, Nat.reduceSub, Nat.zero_add, exists_and_right, exists_const, L2.wipe, if_true, if_false, tBits, rLenK, rCopyK, rTupleK, tAndV, tOrV, tNotV, tChain, tMatch, tAsg2, tRevT, rIsiX, rIsX, rNeI, rNum, tPar, tM0, tM1, rEqE, rNeE, Bool.not_true, Bool.not_false, Bool.false_eq_true]
        refine ⟨d, _, rfl, hdx, _, kit_tup d, ?_⟩
        rcases tup_cases d with ⟨e, n⟩ | ⟨es, rfl⟩
        · rw [e]
          exact iteT (no G (Same.refl G) (noc fun b p v e => n _ e))
        · obtain ⟨ta, ws, rfl, hta, hal⟩ := hdx.seq
          have hl2 := hal.len
          refine iteF ⟨ta, rfl, ws, .inr hta, rfl, ite2 (fun c => ?_) (fun c => ?_)⟩
          · refine no G (Same.refl G) (noc fun b p v e => ?_)
            injection e with e
            rw [e] at hl2
            rw [hl2] at c
            cases c
          · have l2 : ws.length = 2 := by
              have : decide (((ws.length : Nat) : Int) = 2) = true := by simpa using c
              have := of_decide_eq_true this
              omega
            obtain ⟨vc, vv, rfl⟩ := two_of l2
            obtain ⟨cd, z, rfl, hdc, hdz⟩ := two_dx hal
            obtain ⟨wc, wz⟩ := wt_pair wd
            refine ⟨_, _, _, _, rfl, rfl, hta, atI_nat rfl, vc, cd, rfl, hdc, wc, fun G2 s2 => ⟨_, rfl, ?_⟩⟩
            have bad : ∀ G2, Same G G2 → (isCell cd = false ∨ M02.isInt z = false) → Q (.bl false) G2 := by
              intro G2 s2 h
              refine no G2 s2 (go_false' ?_)
              exact h
            refine ite2 (fun c1 => bad G2 s2 (.inl (by simpa using c1))) (fun c1 => ?_)
            refine ⟨_, _, _, _, rfl, rfl, sameT s2 hta, atI_nat rfl, vv, z, rfl, hdz.sub s2, wz, fun G3 s3 => ⟨_, rfl, ?_⟩⟩
            have s23 := s2.trans s3
            refine ite2 (fun c2 => bad G3 s23 (.inr (by simpa using c2))) (fun c2 => ?_)
            have cc : isCell cd = true := by simpa using c1
            have cz : M02.isInt z = true := by simpa using c2
            obtain ⟨v, rfl⟩ : ∃ v, z = .int v := by
              rcases int_cases z with ⟨e, _⟩ | h
              · rw [e] at cz; cases cz
              · exact h
            obtain ⟨b, p, rfl, hb, hp⟩ : ∃ b p, cd = .tuple [.int b, .int p] ∧ 0 ≤ b ∧ 0 ≤ p := by
              unfold isCell at cc
              split at cc
              · rename_i b p
                rw [Bool.and_eq_true, decide_eq_true_eq, decide_eq_true_eq] at cc
                exact ⟨b, p, rfl, cc.1, cc.2⟩
              · cases cc
            obtain ⟨tc, va, vb, rfl, htc, hda, hdb⟩ := hdc.pair
            obtain rfl := hda.int_inv
            obtain rfl := hdb.int_inv
            have val : goesOn lb lp (.tuple [.tuple [.int b, .int p], .int v] :: ds.drop (i + 1)) = (HT.lexLt [lb, lp] [b, p] && goesOn b p (ds.drop (i + 1))) := by
              show (decide (0 ≤ b) && decide (0 ≤ p) && (decide (lb < b) || (decide (b = lb) && decide (lp < p))) && goesOn b p (ds.drop (i + 1))) = _
              rw [decide_eq_true hb, decide_eq_true hp, Bool.true_and, Bool.true_and]
              congr 1
              rw [HT.lexLt_cons, HT.lexLt_cons]
              by_cases e1 : lb = b
              · subst e1
                by_cases e2 : lp = p
                · subst e2
                  simp [HT.lexLt]
                · simp [e2]
              · rw [if_neg e1, decide_eq_false (fun z => e1 (by omega) : ¬ b = lb), Bool.false_and, Bool.or_false]
            refine ⟨_, _, _, _, rfl, rfl, sameT s23 hta, atI_nat rfl, ?_⟩
            refine ⟨pl, tc, [lb, lp], [b, p], rfl, rfl, sameT s23 hpl, sameT s23 htc, _, rfl, ite2 (fun c3 => no G3 s23 ?_) (fun c3 => ?_)⟩
            · rw [val]
              have : HT.lexLt [lb, lp] [b, p] = false := by simpa using c3
              rw [this]
              rfl
            · have c4 : HT.lexLt [lb, lp] [b, p] = true := by simpa using c3
              refine ⟨_, _, _, _, rfl, rfl, sameT s23 hta, atI_nat rfl, tc, rfl, sG.trans s23, b, p, sameT s23 htc, ?_⟩
              rw [go, val, c4, Bool.true_and]
      · rintro τ G ⟨pl, lb, lp, b2, rfl, sG, hpl, go⟩
        have q := k G sG
        rw [hl, List.drop_length] at go
        simp only [isContent] at q
        rw [go] at q
        simp only [tSeq, tAsg, gName, tVar, tC, tOp, tUn, tNil, tCons, tCall, tCB, tBM, tBM0, tSl, tNoPart, tPart, tRet, tRetN, tIf, tIfS, tB, tTest, tDrop, tNext, tTup, tLst, tAnd, tOr, tNot, tNotV, tYes, tIsN, tNotN, rI, rI0, rU, rEq, rNe, rPop, rAppend, rCat, rSetL, rIxL, rIxS, rSlL, tRevL, tFor_eq, tWhile_eq, tLc_eq, iList, iTup, iRng1, iRng2, iStr, iZip, gTup, gCons, gNil, gSub, L2.start, Lay.cx_K, CDiv, CDivN, CPow, List.map_cons, List.map_nil, List.length_cons, List.length_nil, List.replicate_succ, List.replicate_zero, List.cons_append, List.nil_append, List.append_nil, List.set_cons_zero, List.set_cons_succ, List.getElem?_cons_zero, List.getElem?_cons_succ, Option.some.injEq, exists_eq_left', V.int.injEq, V.str.injEq, V.ref.injEq, V.bl.injEq, List.cons.injEq, and_true, true_and, exists_and_left, exists_eq_left, exists_eq, and_assoc, Nat.reduceAdd, Nat.reduceSub, Nat.zero_add, exists_and_right, exists_const, L2.wipe, if_true, if_false, tBits, rLenK, rCopyK, rTupleK, tAndV, tOrV, tNotV, tChain, tMatch, tAsg2, tRevT, rIsiX, rIsX, rNeI, rNum, tPar, tM0, tM1, rEqE, rNeE, Bool.not_true, Bool.not_false, Bool.false_eq_true]
        exact q
theorem ok_law_is_name {f : Addr} {fd : FuncData} (F : Fun K "_law_is_name" "_law_is_name" s_law_is_name f fd) (z_isinstance : mg "isinstance" = none) (z_str : mg "str" = none) (z_len : mg "len" = none) :
    FnG P w K mg base CX0 1 f fd ["_law_it"] (sp_is K isName) := by
  refine okG F sc_law_is_name (fun vs H Q E h => ?_) (fun cdv A outer s H vs Q E hr hq h => ?_)
  · obtain ⟨v, d, rfl, _⟩ := h
    rfl
  · obtain ⟨v, d, rfl, hd, hw, k⟩ := h
    have nd := sc_law_is_name.nd
    refine ⟨_, (pss_cons (ps_if (PW.pt (pw_or (pt_not (pt_val (pe_callB (isiXK K) (by rfl) z_isinstance (by decide +kernel) (pa_cons (pv 0) (pa_cons (pe_bltn (v := .ty "str") (u := .type "str") (by rfl) z_str (by decide +kernel) rfl) pa_nil))))) (pw_or (pt_cmpR op_eq (pe_callB call_len_str (by rfl) z_len (by decide +kernel) (pa_cons (pv 0) pa_nil)) pe_int (nomark _)) (pw_or1 (pt_cmpR op_gt (pe_callB call_len_str (by rfl) z_len (by decide +kernel) (pa_cons (pv 0) pa_nil)) pe_int (nomark _)))))) (pss_one (ps_ret pe_bl)) pss_nil)
      (pss_one (ps_ret (pe_cmpR (eqEK K hr.units) (pe_lc (own := [("_law_sign", 1)]) (g := gName 1) rfl nd (pi_str (pv 0)) (blkOk_by (own := [("_law_sign", 1)]) (N := N_law_is_name) (sc := defScope s_law_is_name) (by decide +kernel)) (fun _ _ _ _ _ => (pg_name (i := 1) nd rfl (by first | exact Or.inl rfl | exact Or.inr rfl))) (fun _ _ _ _ _ => (pts_one (PW.pt (pw_or (pt_cmpR op_lt_str (pv 1) pe_str (nomark _)) (pw_or1 (pt_cmpR op_gt_str (pv 1) pe_str (nomark _))))))) (fun _ _ _ _ _ => (pv 1))) (pe_lst pa_nil) (nomark _))))), ?_⟩
    simp only [tSeq, tAsg, gName, tVar, tC, tOp, tUn, tNil, tCons, tCall, tCB, tBM, tBM0, tSl, tNoPart, tPart, tRet, tRetN, tIf, tIfS, tB, tTest, tDrop, tNext, tTup, tLst, tAnd, tOr, tNot, tNotV, tYes, tIsN, tNotN, rI, rI0, rU, rEq, rNe, rPop, rAppend, rCat, rSetL, rIxL, rIxS, rSlL, tRevL, tFor_eq, tWhile_eq, tLc_eq, iList, iTup, iRng1, iRng2, iStr, iZip, gTup, gCons, gNil, gSub, L2.start, Lay.cx_K, CDiv, CDivN, CPow, List.map_cons, List.map_nil, List.length_cons, List.length_nil, List.replicate_succ, List.replicate_zero, List.cons_append, List.nil_append, List.append_nil, List.set_cons_zero, List.set_cons_succ, List.getElem?_cons_zero, List.getElem?_cons_succ, Option.some.injEq, exists_eq_left', V.int.injEq, V.str.injEq, V.ref.injEq, V.bl.injEq, List.cons.injEq, and_true, true_and, exists_and_left, exists_eq_left, exists_eq, and_assoc, Nat.reduceAdd, Nat.reduceSub, Nat.zero_add, exists_and_right, exists_const, L2.wipe, if_true, if_false, tBits, rLenK, rCopyK, rTupleK, tAndV, tOrV, tNotV, tChain, tMatch, tAsg2, tRevT, rIsiX, rIsX, rNeI, rNum, tPar, tM0, tM1, rEqE, rNeE, Bool.not_true, Bool.not_false, Bool.false_eq_true, N_law_is_name]
    refine ⟨d, _, rfl, hd, _, kit_str d, ?_⟩
    have q := k H (Same.refl H)
    rcases str_cases d with ⟨e, n⟩ | ⟨x, rfl⟩
    · rw [e]
      refine iteT ?_
      rw [n] at q
      exact q
    · cases hd
      have hl : x.length ≤ 1000000 := by
        simp only [wt] at hw
        omega
      have lenx : x.length = x.cps.toList.length := by simp [Str.length]
      refine iteF ⟨x, rfl, line _ hl, rfl, ite2 (fun c => ?_) (fun c => ⟨x, rfl, line _ hl, ite2 (fun c2 => ?_) (fun c2 => ?_)⟩)⟩
      · have : decide (1 ≤ x.length) = false := by
          have := of_decide_eq_true c
          exact decide_eq_false (by omega)
        simp only [isName, okName, this, Bool.false_and] at q
        exact q
      · have : decide (x.length ≤ 8) = false := by
          have := of_decide_eq_true c2
          exact decide_eq_false (by omega)
        simp only [isName, okName, this, Bool.and_false, Bool.false_and] at q
        exact q
      · have h1 : decide (1 ≤ x.length) = true := by
          have : ¬ ((x.length : Nat) : Int) = 0 := fun z => c (decide_eq_true z)
          exact decide_eq_true (by omega)
        have h2 : decide (x.length ≤ 8) = true := by
          have : ¬ (8 : Int) < ((x.length : Nat) : Int) := fun z => c2 (decide_eq_true z)
          exact decide_eq_true (by omega)
        clear q
        simp only [isName, okName, h1, h2, Bool.true_and] at k
        refine ⟨x, rfl, fun L hL => ?_⟩
        refine CLoop.str (fun i acc G => Same H G ∧ acc.length ≤ i ∧ acc.isEmpty = (x.cps.toList.take i).all fun c => decide (97 ≤ c) && decide (c ≤ 122)) ⟨same_upd hL, Nat.zero_le _, rfl⟩ upd_same ?_ ?_
        · rintro i y acc G hy ⟨sG, la, em⟩ hG N hN
          have tk := all_take hy (fun c => decide (97 ≤ c) && decide (c ≤ 122))
          have hi : i < x.cps.toList.length := (List.getElem?_eq_some_iff.mp hy).1
          simp only [tSeq, tAsg, gName, tVar, tC, tOp, tUn, tNil, tCons, tCall, tCB, tBM, tBM0, tSl, tNoPart, tPart, tRet, tRetN, tIf, tIfS, tB, tTest, tDrop, tNext, tTup, tLst, tAnd, tOr, tNot, tNotV, tYes, tIsN, tNotN, rI, rI0, rU, rEq, rNe, rPop, rAppend, rCat, rSetL, rIxL, rIxS, rSlL, tRevL, tFor_eq, tWhile_eq, tLc_eq, iList, iTup, iRng1, iRng2, iStr, iZip, gTup, gCons, gNil, gSub, L2.start, Lay.cx_K, CDiv, CDivN, CPow, List.map_cons, List.map_nil, List.length_cons, List.length_nil, List.replicate_succ, List.replicate_zero, List.cons_append, List.nil_append, List.append_nil, List.set_cons_zero, List.set_cons_succ, List.getElem?_cons_zero, List.getElem?_cons_succ, Option.some.injEq, exists_eq_left', V.int.injEq, V.str.injEq, V.ref.injEq, V.bl.injEq, List.cons.injEq, and_true, true_and, exists_and_left, exists_eq_left, exists_eq, and_assoc, Nat.reduceAdd, Nat.reduceSub, Nat.zero_add, exists_and_right, exists_const, L2.wipe, if_true, if_false, tBits, rLenK, rCopyK, rTupleK, tAndV, tOrV, tNotV, tChain, tMatch, tAsg2, tRevT, rIsiX, rIsX, rNeI, rNum, tPar, tM0, tM1, rEqE, rNeE, Bool.not_true, Bool.not_false, Bool.false_eq_true]
          have bad : (decide (97 ≤ y) && decide (y ≤ 122)) = false → ∃ a, G L = some (.lst a) ∧ a.length < sizeLine ∧ N (upd G L (.lst (a ++ [V.str ⟨#[y]⟩]))) := by
            intro z
            refine ⟨acc, hG, ltline _ (by omega), hN _ _ ⟨sameU' sG hL, by simp only [List.length_append, List.length_singleton]; omega, ?_⟩ upd_same⟩
            rw [snoc_ne, tk, z, Bool.and_false]
          have e1 : decide (([y] : List Nat) < [97]) = decide (y < 97) := by
            rw [Bool.eq_iff_iff, decide_eq_true_eq, decide_eq_true_eq, List.cons_lt_cons_iff]
            constructor
            · rintro (h | ⟨_, h⟩)
              · exact h
              · exact absurd h (List.not_lt_nil _)
            · exact .inl
          have e2 : decide (([122] : List Nat) < [y]) = decide (122 < y) := by
            rw [Bool.eq_iff_iff, decide_eq_true_eq, decide_eq_true_eq, List.cons_lt_cons_iff]
            constructor
            · rintro (h | ⟨_, h⟩)
              · exact h
              · exact absurd h (List.not_lt_nil _)
            · exact .inl
          show if decide (([y] : List Nat) < [97]) = true then _ else if decide (([122] : List Nat) < [y]) = true then _ else _
          rw [e1, e2]
          refine ite2 (fun c3 => bad ?_) (fun c3 => ite2 (fun c4 => bad ?_) (fun c4 => hN acc _ ⟨sG, by omega, ?_⟩ hG))
          · have := of_decide_eq_true c3
            rw [decide_eq_false (by omega : ¬ 97 ≤ y), Bool.false_and]
          · have := of_decide_eq_true c4
            rw [decide_eq_false (by omega : ¬ y ≤ 122), Bool.and_false]
          · have h3 : ¬ y < 97 := fun z => c3 (decide_eq_true z)
            have h4 : ¬ 122 < y := fun z => c4 (decide_eq_true z)
            rw [tk, em, decide_eq_true (by omega : 97 ≤ y), decide_eq_true (by omega : y ≤ 122), Bool.and_self, Bool.and_true]
        · rintro acc G ⟨sG, la, em⟩ hG
          rw [List.take_length] at em
          exact end_eq sG hG k em
end
end C02
namespace C02
open PySem PySem.Spec PyProof.Rows L2 Lay M02
def eqB (b : Int) : PyData → Bool
  | .tuple (.tuple (.int a :: _) :: _) => decide (a = b)
  | _ => true
theorem all_eqB (b0 : Int) : ∀ (r : List PyData) (lb lp : Int), goesOn lb lp r = true → r.all (eqB b0) = oneBlock b0 r
  | [], _, _, _ => rfl
  | d :: r, lb, lp, h => by
    rcases go_cons lb lp d r with ⟨b2, p2, v2, rfl, e⟩ | ⟨_, e⟩
    · rw [e] at h
      simp only [Bool.and_eq_true] at h
      show (decide (b2 = b0) && r.all (eqB b0)) = (decide (b2 = b0) && oneBlock b0 r)
      rw [all_eqB b0 r b2 p2 h.2]
    · rw [e] at h; cases h
theorem go_part : ∀ (r : List PyData) (lb lp : Int) (i : Nat) (d : PyData), goesOn lb lp r = true → r[i]? = some d → ∃ b p v, d = .tuple [.tuple [.int b, .int p], .int v]
  | [], _, _, i, d, _, h => by simp at h
  | d0 :: r, lb, lp, i, d, h, hd => by
    rcases go_cons lb lp d0 r with ⟨b2, p2, v2, rfl, e⟩ | ⟨_, e⟩
    · cases i with
      | zero => cases hd; exact ⟨_, _, _, rfl⟩
      | succ i =>
        rw [e] at h
        simp only [Bool.and_eq_true] at h
        exact go_part r b2 p2 i d h.2 (by simpa using hd)
    · rw [e] at h; cases h
section
variable {P : Program} {w : World} {K : PySem.W.Frag} {mg : Str → Option Value} {base : Heap}
theorem ok_law_whole {f : Addr} {fd : FuncData} (F : Fun K "_law_whole" "_law_whole" s_law_whole f fd) (z_isinstance : mg "isinstance" = none) (z_int : mg "int" = none) (z_bool : mg "bool" = none) :
    FnG P w K mg base CX0 1 f fd ["_law_it"] (sp_is K M02.isInt) := by
  refine okG F sc_law_whole (fun vs H Q E h => ?_) (fun cdv A outer s H vs Q E hr hq h => ?_)
  · obtain ⟨v, d, rfl, _⟩ := h
    rfl
  · obtain ⟨v, d, rfl, hd, hw, k⟩ := h
    have nd := sc_law_whole.nd
    refine ⟨_, (pss_one (ps_ret (pe_and (pe_callB (isiXK K) (by rfl) z_isinstance (by decide +kernel) (pa_cons (pv 0) (pa_cons (pe_bltn (v := .ty "int") (u := .type "int") (by rfl) z_int (by decide +kernel) rfl) pa_nil))) (pe_one (pe_not (pe_callB (isiXK K) (by rfl) z_isinstance (by decide +kernel) (pa_cons (pv 0) (pa_cons (pe_bltn (v := .ty "bool") (u := .type "bool") (by rfl) z_bool (by decide +kernel) rfl) pa_nil)))))))), ?_⟩
    simp only [tSeq, tAsg, gName, tVar, tC, tOp, tUn, tNil, tCons, tCall, tCB, tBM, tBM0, tSl, tNoPart, tPart, tRet, tRetN, tIf, tIfS, tB, tTest, tDrop, tNext, tTup, tLst, tAnd, tOr, tNot, tNotV, tYes, tIsN, tNotN, rI, rI0, rU, rEq, rNe, rPop, rAppend, rCat, rSetL, rIxL, rIxS, rSlL, tRevL, tFor_eq, tWhile_eq, tLc_eq, iList, iTup, iRng1, iRng2, iStr, iZip, gTup, gCons, gNil, gSub, L2.start, Lay.cx_K, CDiv, CDivN, CPow, List.map_cons, List.map_nil, List.length_cons, List.length_nil, List.replicate_succ, List.replicate_zero, List.cons_append, List.nil_append, List.append_nil, List.set_cons_zero, List.set_cons_succ, List.getElem?_cons_zero, List.getElem?_cons_succ, Option.some.injEq, exists_eq_left', V.int.injEq, V.str.injEq, V.ref.injEq, V.bl.injEq, List.cons.injEq, and_true, true_and, exists_and_left, exists_eq_left, exists_eq, and_assoc, Nat.reduceAdd, Nat.reduceSub, Nat.zero_add, exists_and_right, exists_const, L2.wipe, if_true, if_false, tBits, rLenK, rCopyK, rTupleK, tAndV, tOrV, tNotV, tChain, tMatch, tAsg2, tRevT, rIsiX, rIsX, rNeI, rNum, tPar, tM0, tM1, rEqE, rNeE, Bool.not_true, Bool.not_false, Bool.false_eq_true, N_law_whole]
    have q := k H (Same.refl H)
    refine ⟨d, _, rfl, hd, _, kit_int d, ?_⟩
    rw [← isInt_eq] at q
    refine ite2 (fun c => ?_) (fun c => ?_)
    · rw [if_pos c] at q
      exact ⟨d, _, rfl, hd, _, kit_bool d, q⟩
    · rw [if_neg c] at q
      exact q
theorem ok_law_is_change {f : Addr} {fd : FuncData} (F : Fun K "_law_is_change" "_law_is_change" s_law_is_change f fd) (z_isinstance : mg "isinstance" = none) (z_tuple : mg "tuple" = none) (z_len : mg "len" = none) 
    (D_law_is_name : Has P w K mg base 1 "_law_is_name" ["_law_it"] (sp_is K isName))
    (D_law_is_content : Has P w K mg base 3 "_law_is_content" ["_law_it"] (sp_is K isContent)) :
    FnG P w K mg base CX0 4 f fd ["_law_it"] (sp_is K isChange) := by
  refine okG F sc_law_is_change (fun vs H Q E h => ?_) (fun cdv A outer s H vs Q E hr hq h => ?_)
  · obtain ⟨v, d, rfl, _⟩ := h
    rfl
  · obtain ⟨v, d, rfl, hd, hw, k⟩ := h
    have nd := sc_law_is_change.nd
    refine ⟨_, (pss_cons (ps_if (PW.pt (pw_or (pt_not (pt_val (pe_callB (isiXK K) (by rfl) z_isinstance (by decide +kernel) (pa_cons (pv 0) (pa_cons (pe_bltn (v := .ty "tuple") (u := .type "tuple") (by rfl) z_tuple (by decide +kernel) rfl) pa_nil))))) (pw_or (pt_cmpR op_ne (pe_callB (lenK K) (by rfl) z_len (by decide +kernel) (pa_cons (pv 0) pa_nil)) pe_int (nomark _)) (pw_or (pt_not (pt_val (pe_c D_law_is_name (hr.mono (by decide)) hq (pa_cons (pe_ix (ixTK K) (pv 0) pe_int (fun _ _ => rfl)) pa_nil)))) (pw_or1 (pt_not (pt_val (pe_c D_law_is_content (hr.mono (by decide)) hq (pa_cons (pe_ix (ixTK K) (pv 0) pe_int (fun _ _ => rfl)) pa_nil))))))))) (pss_one (ps_ret pe_bl)) pss_nil)
      (pss_one (ps_ret (pe_and (pe_cmpR (neEK K hr.units) (pe_ix (ixTK K) (pv 0) pe_int (fun _ _ => rfl)) (pe_tup pa_nil) (nomark _)) (pe_one (pe_cmpR (eqEK K hr.units) (pe_lc (own := [("_law_cell", 1), ("_law_value", 2)]) rfl nd (piT K (pi_tup (pe_ix (ixTK K) (pv 0) pe_int (fun _ _ => rfl)))) (blkOk_by (own := [("_law_cell", 1), ("_law_value", 2)]) (N := N_law_is_change) (sc := defScope s_law_is_change) (by decide +kernel)) (fun _ _ _ _ _ => (gTupK K (pg_tup (n := 2) (by rfl) (pgs_cons (pg_name (i := 1) nd rfl (by first | exact Or.inl rfl | exact Or.inr rfl)) (pgs_cons (pg_name (i := 2) nd rfl (by first | exact Or.inl rfl | exact Or.inr rfl)) pgs_nil))))) (fun _ _ _ _ _ => (pts_one (pt_cmpR op_ne (pe_ix (ixTK K) (pv 1) pe_int (fun _ _ => rfl)) (pe_ix (ixTK K) (pe_ix (ixTK K) (pe_ix (ixTK K) (pe_ix (ixTK K) (pv 0) pe_int (fun _ _ => rfl)) pe_int (fun _ _ => rfl)) pe_int (fun _ _ => rfl)) pe_int (fun _ _ => rfl)) (nomark _)))) (fun _ _ _ _ _ => (pv 1))) (pe_lst pa_nil) (nomark _))))))), ?_⟩
    simp only [tSeq, tAsg, gName, tVar, tC, tOp, tUn, tNil, tCons, tCall, tCB, tBM, tBM0, tSl, tNoPart, tPart, tRet, tRetN, tIf, tIfS, tB, tTest, tDrop, tNext, tTup, tLst, tAnd, tOr, tNot, tNotV, tYes, tIsN, tNotN, rI, rI0, rU, rEq, rNe, rPop, rAppend, rCat, rSetL, rIxL, rIxS, rSlL, tRevL, tFor_eq, tWhile_eq, tLc_eq, iList, iTup, iRng1, iRng2, iStr, iZip, gTup, gCons, gNil, gSub, L2.start, Lay.cx_K, CDiv, CDivN, CPow, List.map_cons, List.map_nil, List.length_cons, List.length_nil, List.replicate_succ, List.replicate_zero, List.cons_append, List.nil_append, List.append_nil, List.set_cons_zero, List.set_cons_succ, List.getElem?_cons_zero, List.getElem?_cons_succ, Option.some.injEq, exists_eq_left', V.int.injEq, V.str.injEq, V.ref.injEq, V.bl.injEq, List.cons.injEq, and_true, true_and, exists_and_left, exists_eq_left, exists_eq, and_assoc, Nat.reduceAdd, Nat.reduceSub, Nat.zero_add, exists_and_right, exists_const, L2.wipe, if_true, if_false, tBits, rLenK, rCopyK, rTupleK, tAndV, tOrV, tNotV, tChain, tMatch, tAsg2, tRevT, rIsiX, rIsX, rNeI, rNum, tPar, tM0, tM1, rEqE, rNeE, Bool.not_true, Bool.not_false, Bool.false_eq_true, N_law_is_change]
    refine ⟨d, _, rfl, hd, _, kit_tup d, ?_⟩
    rcases tup_cases d with ⟨e, n⟩ | ⟨es, rfl⟩
    · rw [e]
      refine iteT ?_
      have q := k H (Same.refl H)
      rw [not_change (fun a b e => n _ e)] at q
      exact q
    · obtain ⟨t, ws, rfl, hs, hal⟩ := hd.seq
      have hl2 := hal.len
      refine iteF ⟨t, rfl, ws, .inr hs, rfl, ite2 (fun c => ?_) (fun c => ?_)⟩
      · have q := k H (Same.refl H)
        rw [not_change (fun a b e => by injection e with e; rw [e] at hl2; rw [hl2] at c; cases c)] at q
        exact q
      · have l2 : ws.length = 2 := by
          have : decide (((ws.length : Nat) : Int) = 2) = true := by simpa using c
          have := of_decide_eq_true this
          omega
        obtain ⟨va, vc, rfl⟩ := two_of l2
        obtain ⟨a, c, rfl, ha, hc⟩ := two_dx hal
        obtain ⟨wa, wc⟩ := wt_pair hw
        refine ⟨_, _, _, _, rfl, rfl, hs, atI_nat rfl, va, a, rfl, ha, wa, fun H2 s2 => ⟨_, rfl, ite2 (fun cn => ?_) (fun cn => ?_)⟩⟩
        · have q := k H2 s2
          rw [not_name (by simpa using cn)] at q
          exact q
        · refine ⟨_, _, _, _, rfl, rfl, sameT s2 hs, atI_nat rfl, vc, c, rfl, hc.sub s2, wc, fun H3 s3 => ⟨_, rfl, ite2 (fun cc => ?_) (fun cc => ?_)⟩⟩
          · have q := k H3 (s2.trans s3)
            rw [not_content (by simpa using cc)] at q
            exact q
          · have s13 := s2.trans s3
            have cn' : isName a = true := by simpa using cn
            have cc' : isContent c = true := by simpa using cc
            obtain ⟨ds, rfl⟩ : ∃ ds, c = .tuple ds := by
              unfold isContent at cc'
              split at cc'
              · exact ⟨_, rfl⟩
              · cases cc'
            simp only [isContent] at cc'
            obtain ⟨tc, vs, rfl, hsc, hal2⟩ := hc.seq
            have hl := hal2.len
            refine ⟨_, _, _, _, rfl, rfl, sameT s13 hs, atI_nat rfl, line _, fun p hp => ?_⟩
            have sp := sameU (o := .tup []) s13 hp
            refine ⟨tc, rfl, vs, .inl ⟨sameT sp hsc, .inl (.inl upd_same)⟩, ?_⟩
            generalize upd H3 p (.tup []) = G0 at sp
            cases ds with
            | nil =>
              have : vs = [] := List.length_eq_zero_iff.mp hl
              subst this
              refine iteF ?_
              exact k _ sp
            | cons d0 r =>
              cases vs with
              | nil => cases hl
              | cons v0 vr =>
                rcases go_cons (-1) (-1) d0 r with ⟨b, p0, z, rfl, e⟩ | ⟨_, e⟩
                · have val : isChange (.tuple [a, .tuple (.tuple [.tuple [.int b, .int p0], .int z] :: r)]) = (.tuple [.tuple [.int b, .int p0], .int z] :: r : List PyData).all (eqB b) := by
                    show (isName a && goesOn (-1) (-1) (.tuple [.tuple [.int b, .int p0], .int z] :: r) && oneBlock b r) = (decide (b = b) && r.all (eqB b))
                    rw [e] at cc'
                    simp only [Bool.and_eq_true] at cc'
                    rw [cn', e, cc'.1.1.1, cc'.1.1.2, cc'.1.2, cc'.2, all_eqB b r b p0 cc'.2]
                    simp
                  refine iteT ⟨_, _, _, _, rfl, rfl, sameT sp hs, atI_nat rfl, tc, rfl, ⟨_, sameT sp hsc⟩, fun L hL => ?_⟩
                  have sL := sameU (o := .lst []) sp hL
                  have nL : H L = none := sp.free hL
                  have d0x := hal2.get 0 v0 _ rfl rfl
                  obtain ⟨t0, vA, vB, rfl, ht0, hA, _⟩ := d0x.pair
                  obtain ⟨t1, vC, vD, rfl, ht1, hC, _⟩ := hA.pair
                  obtain rfl := hC.int_inv
                  generalize hds : (PyData.tuple [.tuple [.int b, .int p0], .int z] :: r) = ds at hal2 hl cc' val k hw hd hc hal wc
                  generalize hvs : (V.ref t0 :: vr) = vs at hal2 hl hsc
                  have at0 : vs[0]? = some (.ref t0) := by rw [← hvs]; rfl
                  clear e d0x
                  refine CLoop.tup vs (fun i acc G => Same H G ∧ acc.length ≤ i ∧ acc.isEmpty = (ds.take i).all (eqB b)) ⟨sL, Nat.zero_le _, rfl⟩ upd_same ?_ ?_ ?_
                  · rintro i acc G ⟨sG, _, _⟩ _
                    exact sameT sG hsc
                  · rintro i x acc G hx ⟨sG, la, em⟩ hG N hN
                    have hi : i < vs.length := (List.getElem?_eq_some_iff.mp hx).1
                    have hdi : ds[i]? = some (ds[i]'(by omega)) := List.getElem?_eq_getElem _
                    have dx := (hal2.sub sG).get i x _ hx hdi
                    have tk := all_take hdi (eqB b)
                    obtain ⟨b2, p2, v2, e2⟩ := go_part ds _ _ i _ cc' hdi
                    rw [e2] at dx tk
                    have wl := wtAll_len ds
                    have wds : wtAll ds ≤ 1000000 := by
                      simp only [wt] at wc
                      omega
                    obtain ⟨t2, vE, vF, rfl, ht2, hE, _⟩ := dx.pair
                    obtain ⟨t3, vG, vH, rfl, ht3, hG2, _⟩ := hE.pair
                    obtain rfl := hG2.int_inv
                    simp only [tSeq, tAsg, gName, tVar, tC, tOp, tUn, tNil, tCons, tCall, tCB, tBM, tBM0, tSl, tNoPart, tPart, tRet, tRetN, tIf, tIfS, tB, tTest, tDrop, tNext, tTup, tLst, tAnd, tOr, tNot, tNotV, tYes, tIsN, tNotN, rI, rI0, rU, rEq, rNe, rPop, rAppend, rCat, rSetL, rIxL, rIxS, rSlL, tRevL, tFor_eq, tWhile_eq, tLc_eq, iList, iTup, iRng1, iRng2, iStr, iZip, gTup, gCons, gNil, gSub, L2.start, Lay.cx_K, CDiv, CDivN, CPow, List.map_cons, List.map_nil, List.length_cons, List.length_nil, List.replicate_succ, List.replicate_zero, List.cons_append, List.nil_append, List.append_nil, List.set_cons_zero, List.set_cons_succ, List.getElem?_cons_zero, List.getElem?_cons_succ, Option.some.injEq, exists_eq_left', V.int.injEq, V.str.injEq, V.ref.injEq, V.bl.injEq, List.cons.injEq, and_true, true_and, exists_and_left, exists_eq_left, exists_eq, and_assoc, Nat.reduceAdd, Nat.reduceSub, Nat.zero_add, exists_and_right, exists_const, L2.wipe, if_true, if_false, tBits, rLenK, rCopyK, rTupleK, tAndV, tOrV, tNotV, tChain, tMatch, tAsg2, tRevT, rIsiX, rIsX, rNeI, rNum, tPar, tM0, tM1, rEqE, rNeE, Bool.not_true, Bool.not_false, Bool.false_eq_true]
                    refine ⟨_, ht2, rfl, _, _, rfl, _, _, rfl, rfl, _, _, _, _, rfl, rfl, ht3, atI_nat rfl, _, _, _, _, rfl, rfl, sameT sG hs, atI_nat rfl, _, _, _, _, rfl, rfl, sameT sG hsc, atI_nat at0,
                      _, _, _, _, rfl, rfl, sameT sG ht0, atI_nat rfl, _, _, _, _, rfl, rfl, sameT sG ht1, atI_nat rfl, rfl, ?_⟩
                    have e3 : decide (V.int b2 = V.int b) = decide (b2 = b) := by simp
                    rw [e3]
                    refine ite2 (fun c3 => ?_) (fun c3 => ?_)
                    · refine ⟨acc, hG, ltline _ (by omega), hN _ _ ⟨sameU' sG nL, by simp only [List.length_append, List.length_singleton]; omega, ?_⟩ upd_same⟩
                      have : decide (b2 = b) = false := by simpa using c3
                      rw [snoc_ne, tk, show eqB b (.tuple [.tuple [.int b2, .int p2], .int v2]) = decide (b2 = b) from rfl, this, Bool.and_false]
                    · refine hN acc _ ⟨sG, by omega, ?_⟩ hG
                      have : decide (b2 = b) = true := by simpa using c3
                      rw [tk, em, show eqB b (.tuple [.tuple [.int b2, .int p2], .int v2]) = decide (b2 = b) from rfl, this, Bool.and_true]
                  · rintro acc G ⟨sG, la, em⟩ hG
                    rw [hl, List.take_length] at em
                    rw [← val] at em
                    exact end_eq sG hG k em
                · rw [e] at cc'
                  cases cc'
/-- data that the law makes: its ints, how long, how deep -/
structure Gd (B N n : Nat) (d : PyData) : Prop where
  fi : fine B d = true
  wt : wt d ≤ N
  dp : d.depth ≤ n
def BB : Nat := 10 ^ 41
def sp_right (K : PySem.W.Frag) : Sp := fun vs H Q _ => ∃ v d, vs = [v] ∧ Dx K H v d ∧ Gd BB 1000000 20 d ∧ ∀ H', Same H H' → Q (.bl true) H'
theorem Gd.told {B N n : Nat} {d : PyData} (h : Gd B N n d) (hB : B < 10 ^ 50) (hN : N ≤ 1000000) (hn : n ≤ 60) : d.showable = true ∧ d.depth ≤ 60 ∧ d.shown.length ≤ sizeLine := by
  obtain ⟨a, b⟩ := shown_le hB d h.fi
  exact ⟨a, Nat.le_trans h.dp hn, line _ (by have := h.wt; omega)⟩
theorem rep {K : PySem.W.Frag} {H : Hp} {v : V} {d : PyData} {Q : VK} (h : Dx K H v d) (g : d.showable = true ∧ d.depth ≤ 60 ∧ d.shown.length ≤ sizeLine) (q : Q (.str d.shown) H) : rReprX K [v] H Q := ⟨v, d, rfl, h, g.1, g.2.1, g.2.2, q⟩
def kD (d : PyData) : PyData := .list [.bool (isCell d), .bool (isContent d), .bool (isName d), .bool (isChange d)]
theorem kD_dx {K : PySem.W.Frag} {H : Hp} {p : Addr} {d : PyData} (h : H p = some (.lst [.bl (isCell d), .bl (isContent d), .bl (isName d), .bl (isChange d)])) : Dx K H (.ref p) (kD d) :=
  .lst (.inl (.inl h)) (.cons (.bl _) (.cons (.bl _) (.cons (.bl _) (.cons (.bl _) .nil))))
theorem iteT' {x : V} {A B : Prop} (h : A) : if decide (x = x) = true then A else B := by
  rw [if_pos (by simp)]
  exact h
theorem ok_law_right {f : Addr} {fd : FuncData} (F : Fun K "_law_right" "_law_right" s_law_right f fd) (z_repr : mg "repr" = none)
    (D_law_is_cell : Has P w K mg base 2 "_law_is_cell" ["_law_it"] (sp_is K isCell))
    (D_law_is_content : Has P w K mg base 3 "_law_is_content" ["_law_it"] (sp_is K isContent))
    (D_law_is_name : Has P w K mg base 1 "_law_is_name" ["_law_it"] (sp_is K isName))
    (D_law_is_change : Has P w K mg base 4 "_law_is_change" ["_law_it"] (sp_is K isChange))
    (D_is_cell : Has P w K mg base 2 "is_cell" ["thing"] (sp_is K isCell))
    (D_is_content : Has P w K mg base 4 "is_content" ["thing"] (sp_is K isContent))
    (D_is_name : Has P w K mg base 1 "is_name" ["thing"] (sp_is K isName))
    (D_is_change : Has P w K mg base 5 "is_change" ["thing"] (sp_is K isChange)) :
    FnG P w K mg base CX0 6 f fd ["_law_it"] (sp_right K) := by
  refine okG F sc_law_right (fun vs H Q E h => ?_) (fun cdv A outer s H vs Q E hr hq h => ?_)
  · obtain ⟨v, d, rfl, _⟩ := h
    rfl
  · obtain ⟨v, d, rfl, hd, hg, k⟩ := h
    have nd := sc_law_right.nd
    refine ⟨_, (pss_cons (ps_set (i := 1) nd rfl (Or.inl rfl) (pe_lst (pa_cons (pe_c D_law_is_cell (hr.mono (by decide)) hq (pa_cons (pv 0) pa_nil)) (pa_cons (pe_c D_law_is_content (hr.mono (by decide)) hq (pa_cons (pv 0) pa_nil)) (pa_cons (pe_c D_law_is_name (hr.mono (by decide)) hq (pa_cons (pv 0) pa_nil)) (pa_cons (pe_c D_law_is_change (hr.mono (by decide)) hq (pa_cons (pv 0) pa_nil)) pa_nil))))))
      (pss_cons (ps_set (i := 2) nd rfl (Or.inl rfl) (pe_callB (reprK K hr.units hq) (by rfl) z_repr (by decide +kernel) (pa_cons (pv 0) pa_nil)))
      (pss_cons (ps_set (i := 3) nd rfl (Or.inl rfl) (pe_lst (pa_cons (pe_c D_is_cell (hr.mono (by decide)) hq (pa_cons (pv 0) pa_nil)) (pa_cons (pe_c D_is_content (hr.mono (by decide)) hq (pa_cons (pv 0) pa_nil)) (pa_cons (pe_c D_is_name (hr.mono (by decide)) hq (pa_cons (pv 0) pa_nil)) (pa_cons (pe_c D_is_change (hr.mono (by decide)) hq (pa_cons (pv 0) pa_nil)) pa_nil))))))
      (pss_cons (ps_set (i := 4) nd rfl (Or.inl rfl) (pe_lst (pa_cons (pe_ck D_is_cell (hr.mono (by decide)) hq (pk_cons (pv 0) pk_nil)) (pa_cons (pe_ck D_is_content (hr.mono (by decide)) hq (pk_cons (pv 0) pk_nil)) (pa_cons (pe_ck D_is_name (hr.mono (by decide)) hq (pk_cons (pv 0) pk_nil)) (pa_cons (pe_ck D_is_change (hr.mono (by decide)) hq (pk_cons (pv 0) pk_nil)) pa_nil))))))
      (pss_one (ps_ret (pe_and (pe_cmpR op_eq (pe_callB (reprK K hr.units hq) (by rfl) z_repr (by decide +kernel) (pa_cons (pe_lst (pa_cons (pv 3) (pa_cons (pv 4) pa_nil))) pa_nil)) (pe_callB (reprK K hr.units hq) (by rfl) z_repr (by decide +kernel) (pa_cons (pe_lst (pa_cons (pv 1) (pa_cons (pv 1) pa_nil))) pa_nil)) (nomark _)) (pe_one (pe_cmpR op_eq (pe_callB (reprK K hr.units hq) (by rfl) z_repr (by decide +kernel) (pa_cons (pv 0) pa_nil)) (pv 2) (nomark _)))))))))), ?_⟩
    simp only [tSeq, tAsg, gName, tVar, tC, tOp, tUn, tNil, tCons, tCall, tCB, tBM, tBM0, tSl, tNoPart, tPart, tRet, tRetN, tIf, tIfS, tB, tTest, tDrop, tNext, tTup, tLst, tAnd, tOr, tNot, tNotV, tYes, tIsN, tNotN, rI, rI0, rU, rEq, rNe, rPop, rAppend, rCat, rSetL, rIxL, rIxS, rSlL, tRevL, tFor_eq, tWhile_eq, tLc_eq, iList, iTup, iRng1, iRng2, iStr, iZip, gTup, gCons, gNil, gSub, L2.start, Lay.cx_K, CDiv, CDivN, CPow, List.map_cons, List.map_nil, List.length_cons, List.length_nil, List.replicate_succ, List.replicate_zero, List.cons_append, List.nil_append, List.append_nil, List.set_cons_zero, List.set_cons_succ, List.getElem?_cons_zero, List.getElem?_cons_succ, Option.some.injEq, exists_eq_left', V.int.injEq, V.str.injEq, V.ref.injEq, V.bl.injEq, List.cons.injEq, and_true, true_and, exists_and_left, exists_eq_left, exists_eq, and_assoc, Nat.reduceAdd, Nat.reduceSub, Nat.zero_add, exists_and_right, exists_const, L2.wipe, if_true, if_false, tBits, rLenK, rCopyK, rTupleK, tAndV, tOrV, tNotV, tChain, tMatch, tAsg2, tRevT, rIsiX, rIsX, rNeI, rNum, tPar, tM0, tM1, rEqE, rNeE, Bool.not_true, Bool.not_false, Bool.false_eq_true, N_law_right]
    have hw := hg.wt
    refine ⟨v, d, rfl, hd, hw, fun H1 s1 => ⟨v, d, rfl, hd.sub s1, hw, fun H2 s2 => ?_⟩⟩
    have t2 := s1.trans s2
    refine ⟨v, d, rfl, hd.sub t2, hw, fun H3 s3 => ⟨v, d, rfl, hd.sub (t2.trans s3), hw, fun H4 s4 => ⟨line _, fun p hp => ?_⟩⟩⟩
    have t4 := (t2.trans s3).trans s4
    have t5 := sameU (o := .lst [.bl (isCell d), .bl (isContent d), .bl (isName d), .bl (isChange d)]) t4 hp
    have told := hg.told (by decide +kernel) (Nat.le_refl _) (by decide)
    have kinds : Gd BB 1000000 20 (.list [kD d, kD d]) := ⟨by simp [fine, fineAll, kD], by simp [wt, wtAll, kD], by simp [PyData.depth, PyData.depthAll, kD]⟩
    have told2 := kinds.told (by decide +kernel) (Nat.le_refl _) (by decide)
    refine rep (hd.sub t5) told ?_
    have hG0 : upd H4 p (.lst [.bl (isCell d), .bl (isContent d), .bl (isName d), .bl (isChange d)]) p = some (.lst [.bl (isCell d), .bl (isContent d), .bl (isName d), .bl (isChange d)]) := upd_same
    generalize upd H4 p (.lst [.bl (isCell d), .bl (isContent d), .bl (isName d), .bl (isChange d)]) = G0 at t5 hG0
    refine ⟨v, d, rfl, hd.sub t5, hw, fun H5 s5 => ⟨v, d, rfl, hd.sub (t5.trans s5), hw, fun H6 s6 => ?_⟩⟩
    have t6 := (t5.trans s5).trans s6
    refine ⟨v, d, rfl, hd.sub t6, hw, fun H7 s7 => ⟨v, d, rfl, hd.sub (t6.trans s7), hw, fun H8 s8 => ⟨line _, fun p1 hp1 => ?_⟩⟩⟩
    have t8 := (t6.trans s7).trans s8
    have t9 := sameU (o := .lst [.bl (isCell d), .bl (isContent d), .bl (isName d), .bl (isChange d)]) t8 hp1
    refine ⟨v, d, rfl, hd.sub t9, hw, fun H10 s10 => ⟨v, d, rfl, hd.sub (t9.trans s10), hw, fun H11 s11 => ?_⟩⟩
    have t11 := (t9.trans s10).trans s11
    refine ⟨v, d, rfl, hd.sub t11, hw, fun H12 s12 => ⟨v, d, rfl, hd.sub (t11.trans s12), hw, fun H13 s13 => ⟨line _, fun p2 hp2 => ⟨line _, fun p3 hp3 => ?_⟩⟩⟩⟩
    have t13 := (t11.trans s12).trans s13
    have u13 := ((s10.trans s11).trans s12).trans s13
    have g1 : upd (upd H13 p2 (.lst [.bl (isCell d), .bl (isContent d), .bl (isName d), .bl (isChange d)])) p3 (.lst [.ref p1, .ref p2]) p1 = some (.lst [.bl (isCell d), .bl (isContent d), .bl (isName d), .bl (isChange d)]) :=
      same_upd hp3 _ _ (same_upd hp2 _ _ (u13 _ _ upd_same))
    have g2 : upd (upd H13 p2 (.lst [.bl (isCell d), .bl (isContent d), .bl (isName d), .bl (isChange d)])) p3 (.lst [.ref p1, .ref p2]) p2 = some (.lst [.bl (isCell d), .bl (isContent d), .bl (isName d), .bl (isChange d)]) :=
      same_upd hp3 _ _ upd_same
    have t14 := sameU (o := .lst [.ref p1, .ref p2]) (sameU (o := .lst [.bl (isCell d), .bl (isContent d), .bl (isName d), .bl (isChange d)]) t13 hp2) hp3
    have g0 := ((((((s5.trans s6).trans s7).trans s8).trans (same_upd (o := .lst [.bl (isCell d), .bl (isContent d), .bl (isName d), .bl (isChange d)]) hp1)).trans u13).trans (same_upd (o := .lst [.bl (isCell d), .bl (isContent d), .bl (isName d), .bl (isChange d)]) hp2)).trans (same_upd (o := .lst [.ref p1, .ref p2]) hp3)
    have gp := g0 _ _ hG0
    have g3 : upd (upd H13 p2 (.lst [.bl (isCell d), .bl (isContent d), .bl (isName d), .bl (isChange d)])) p3 (.lst [.ref p1, .ref p2]) p3 = some (.lst [.ref p1, .ref p2]) := upd_same
    generalize upd (upd H13 p2 (.lst [.bl (isCell d), .bl (isContent d), .bl (isName d), .bl (isChange d)])) p3 (.lst [.ref p1, .ref p2]) = G1 at g1 g2 g3 t14 gp
    refine rep (.lst (.inl (.inl g3)) (.cons (kD_dx g1) (.cons (kD_dx g2) .nil))) told2 ⟨line _, fun p4 hp4 => ?_⟩
    refine rep (.lst (.inl (.inl upd_same)) (.cons (kD_dx (same_upd hp4 _ _ gp)) (.cons (kD_dx (same_upd hp4 _ _ gp)) .nil))) told2 ⟨rfl, ?_⟩
    refine iteT' ?_
    have t15 := sameU (o := .lst [.ref p, .ref p]) t14 hp4
    refine rep (hd.sub t15) told ⟨rfl, ?_⟩
    have := k _ t15
    simpa using this
end
end C02
namespace C02
open PySem PySem.Spec PyProof.Rows L2 Lay M02
/-- all but the feed, and what is being made -/
def off (S : List Addr) (H : Hp) : Hp := fun b => if b ∈ S then none else H b
theorem off_some {S : List Addr} {b : Addr} {H : Hp} {o : HO} (e : off S H b = some o) : b ∉ S ∧ H b = some o := by
  unfold off at e
  split at e
  · cases e
  · rename_i h
    exact ⟨h, e⟩
theorem off_of {S : List Addr} {b : Addr} {H : Hp} {o : HO} (h1 : b ∉ S) (h : H b = some o) : off S H b = some o := by
  unfold off
  rw [if_neg h1]
  exact h
theorem off_sub (S : List Addr) (H : Hp) : Same (off S H) H := fun b o e => (off_some e).2
theorem off_less {S T : List Addr} (H : Hp) (h : ∀ a ∈ T, a ∈ S) : Same (off S H) (off T H) := fun b o e => off_of (fun z => (off_some e).1 (h b z)) (off_some e).2
theorem _root_.Lay.Keep.off {p l : Addr} {S : List Addr} {H H' : Hp} (k : Keep p l H H') (hp : p ∈ S) (hl : l ∈ S) : Same (off S H) (off S H') := by
  intro b o e
  obtain ⟨h1, h3⟩ := off_some e
  exact off_of h1 (k b o h3 (fun z => h1 (by rw [z]; exact hp)) fun z => h1 (by rw [z]; exact hl))
theorem off_same {S : List Addr} {H H' : Hp} (s : Same H H') : Same (off S H) (off S H') := by
  intro b o e
  obtain ⟨h1, h3⟩ := off_some e
  exact off_of h1 (s b o h3)
theorem off_upd {S : List Addr} {H : Hp} {L : Addr} {o : HO} (h : L ∈ S) : off S (upd H L o) = off S H := by
  funext b
  unfold off
  split
  · rfl
  · rename_i z
    rw [upd_ne (fun e => z (by rw [e]; exact h))]
theorem there {H : Hp} {p l : Addr} {n : Nat} (h : Feed H p l n) : H p ≠ none ∧ H l ≠ none := by
  obtain ⟨ns, m, h1, h2, _⟩ := h
  exact ⟨by rw [h1]; exact Option.some_ne_none _, by rw [h2]; exact Option.some_ne_none _⟩
theorem fresh {H : Hp} {p l q : Addr} {n : Nat} (h : Feed H p l n) (hq : H q = none) : q ≠ p ∧ q ≠ l :=
  ⟨fun z => (there h).1 (by rw [← z]; exact hq), fun z => (there h).2 (by rw [← z]; exact hq)⟩
theorem nin2 {p l q : Addr} (h : q ≠ p ∧ q ≠ l) : q ∉ [p, l] := by simp [h.1, h.2]
theorem off_new {H : Hp} {p l q : Addr} {n : Nat} {o : HO} (h : Feed H p l n) (hq : H q = none) : off [p, l] (upd H q o) q = some o := off_of (nin2 (fresh h hq)) upd_same
theorem off_new3 {H : Hp} {p l q L : Addr} {n : Nat} {o u : HO} (h : Feed H p l n) (hq : H q = none) (hL : H L = some u) : off [p, l, L] (upd H q o) q = some o := by
  refine off_of ?_ upd_same
  have := fresh h hq
  have nL : q ≠ L := fun z => by rw [z, hL] at hq; cases hq
  simp [this.1, this.2, nL]
theorem feedU {H : Hp} {p l q : Addr} {n : Nat} {o : HO} (h : Feed H p l n) (hq : H q = none) : Feed (upd H q o) p l n := h.same (same_upd hq)
theorem keepU {H G : Hp} {p l q : Addr} {o : HO} (k : Keep p l H G) (hq : G q = none) : Keep p l H (upd G q o) := k.trans (.of (same_upd hq))
theorem keepW {H G : Hp} {p l q : Addr} {o : HO} (k : Keep p l H G) (hq : H q = none) : Keep p l H (upd G q o) := by
  intro b u e h1 h2
  rw [upd_ne (ne_of_none e hq)]
  exact k b u e h1 h2
theorem backN {H G : Hp} {p l b : Addr} {n : Nat} (k : Keep p l H G) (f : Feed G p l n) (h : G b = none) : H b = none := by
  cases e : H b with
  | none => rfl
  | some o =>
    obtain ⟨np, nl⟩ := fresh f h
    rw [k b o e np nl] at h
    cases h
section
variable {P : Program} {w : World} {K : PySem.W.Frag} {mg : Str → Option Value} {base : Heap}
theorem ok_law_feed {f : Addr} {fd : FuncData} (F : Fun K "_law_feed" "_law_feed" s_law_feed f fd) (z_list : mg "list" = none) :
    FnG P w K mg base CX0 1 f fd ["_law_script"] (sp_feed K) := by
  refine okG F sc_law_feed (fun vs H Q E h => ?_) (fun cdv A outer s H vs Q E hr hq h => ?_)
  · obtain ⟨a, ns, rfl, _⟩ := h
    rfl
  · obtain ⟨a, ns, rfl, ha, hn, k⟩ := h
    have nd := sc_law_feed.nd
    refine ⟨_, (pss_cons (ps_set (i := 1) nd rfl (Or.inl rfl) pe_int)
      (pss_cons (ps_for PassesOwn.never rfl (piL K (pi_list (pe_slice (slLK K) (pv 0) po_none (po_some pe_int)))) (pg_name (i := 2) nd rfl (Or.inl rfl))
        (pss_one (ps_set (i := 1) nd rfl (Or.inl rfl) (pe_op op_mod (pe_op op_add (pe_op op_add (pe_op op_mul (pv 1) pe_int) (pe_op op_mod (pv 2) pe_int)) pe_int) pe_int))))
      (pss_one (ps_ret (pe_lst (pa_cons (revK K (pe_revL (pe_callTy (copyK K) (by rfl) z_list (by decide +kernel) (pa_cons (pe_slice (slLK K) (pv 0) po_none (po_some pe_int)) pa_nil)))) (pa_cons (pv 1) (pa_cons pe_int pa_nil)))))))), ?_⟩
    simp only [tSeq, tAsg, gName, tVar, tC, tOp, tUn, tNil, tCons, tCall, tCB, tBM, tBM0, tSl, tNoPart, tPart, tRet, tRetN, tIf, tIfS, tB, tTest, tDrop, tNext, tTup, tLst, tAnd, tOr, tNot, tNotV, tYes, tIsN, tNotN, rI, rI0, rU, rEq, rNe, rPop, rAppend, rCat, rSetL, rIxL, rIxS, rSlL, tRevL, tFor_eq, tWhile_eq, tLc_eq, iList, iTup, iRng1, iRng2, iStr, iZip, gTup, gCons, gNil, gSub, L2.start, Lay.cx_K, CDiv, CDivN, CPow, List.map_cons, List.map_nil, List.length_cons, List.length_nil, List.replicate_succ, List.replicate_zero, List.cons_append, List.nil_append, List.append_nil, List.set_cons_zero, List.set_cons_succ, List.getElem?_cons_zero, List.getElem?_cons_succ, Option.some.injEq, exists_eq_left', V.int.injEq, V.str.injEq, V.ref.injEq, V.bl.injEq, List.cons.injEq, and_true, true_and, exists_and_left, exists_eq_left, exists_eq, and_assoc, Nat.reduceAdd, Nat.reduceSub, Nat.zero_add, exists_and_right, exists_const, L2.wipe, if_true, if_false, tBits, rLenK, rCopyK, rTupleK, N_law_feed]
    refine ⟨_, ha, fun q hq' => ?_⟩
    have e63 : cutV (ns.map V.int) none (some 63) = ns.map V.int := cut63 (by simpa using hn)
    rw [e63]
    refine ⟨⟨_, .inl (.inl upd_same)⟩, ?_⟩
    have s1 : Same H (upd H q (.lst (ns.map V.int))) := same_upd hq'
    refine Loop.list (ns.map V.int) (fun i τ G => ∃ (m : Int) (c : Option V), τ = [some (.ref a), some (.int m), c] ∧ 0 ≤ m ∧ m < 2147483563 ∧ G = upd H q (.lst (ns.map V.int)))
      ⟨9873, none, rfl, by decide, by decide, rfl⟩ (fun i τ G ⟨_, _, _, _, _, e⟩ => by rw [e]; exact .inl (.inl upd_same)) ?_ ?_
    · rintro i x τ G hx ⟨m, c, rfl, h0, h1, rfl⟩
      obtain ⟨y, rfl⟩ := int_at hx
      simp only [tSeq, tAsg, gName, tVar, tC, tOp, tUn, tNil, tCons, tCall, tCB, tBM, tBM0, tSl, tNoPart, tPart, tRet, tRetN, tIf, tIfS, tB, tTest, tDrop, tNext, tTup, tLst, tAnd, tOr, tNot, tNotV, tYes, tIsN, tNotN, rI, rI0, rU, rEq, rNe, rPop, rAppend, rCat, rSetL, rIxL, rIxS, rSlL, tRevL, tFor_eq, tWhile_eq, tLc_eq, iList, iTup, iRng1, iRng2, iStr, iZip, gTup, gCons, gNil, gSub, L2.start, Lay.cx_K, CDiv, CDivN, CPow, List.map_cons, List.map_nil, List.length_cons, List.length_nil, List.replicate_succ, List.replicate_zero, List.cons_append, List.nil_append, List.append_nil, List.set_cons_zero, List.set_cons_succ, List.getElem?_cons_zero, List.getElem?_cons_succ, Option.some.injEq, exists_eq_left', V.int.injEq, V.str.injEq, V.ref.injEq, V.bl.injEq, List.cons.injEq, and_true, true_and, exists_and_left, exists_eq_left, exists_eq, and_assoc, Nat.reduceAdd, Nat.reduceSub, Nat.zero_add, exists_and_right, exists_const, L2.wipe, if_true, if_false, tBits, rLenK, rCopyK, rTupleK]
      refine ⟨.inr (by decide), by decide, by decide, ?_, ?_⟩
      · exact Int.emod_nonneg _ (by decide)
      · exact Int.emod_lt_of_pos _ (by decide)
    · rintro τ G ⟨m, c, rfl, h0, h1, rfl⟩
      simp only [tSeq, tAsg, gName, tVar, tC, tOp, tUn, tNil, tCons, tCall, tCB, tBM, tBM0, tSl, tNoPart, tPart, tRet, tRetN, tIf, tIfS, tB, tTest, tDrop, tNext, tTup, tLst, tAnd, tOr, tNot, tNotV, tYes, tIsN, tNotN, rI, rI0, rU, rEq, rNe, rPop, rAppend, rCat, rSetL, rIxL, rIxS, rSlL, tRevL, tFor_eq, tWhile_eq, tLc_eq, iList, iTup, iRng1, iRng2, iStr, iZip, gTup, gCons, gNil, gSub, L2.start, Lay.cx_K, CDiv, CDivN, CPow, List.map_cons, List.map_nil, List.length_cons, List.length_nil, List.replicate_succ, List.replicate_zero, List.cons_append, List.nil_append, List.append_nil, List.set_cons_zero, List.set_cons_succ, List.getElem?_cons_zero, List.getElem?_cons_succ, Option.some.injEq, exists_eq_left', V.int.injEq, V.str.injEq, V.ref.injEq, V.bl.injEq, List.cons.injEq, and_true, true_and, exists_and_left, exists_eq_left, exists_eq, and_assoc, Nat.reduceAdd, Nat.reduceSub, Nat.zero_add, exists_and_right, exists_const, L2.wipe, if_true, if_false, tBits, rLenK, rCopyK, rTupleK]
      refine ⟨_, s1.seq ha, fun q2 hq2 => ?_⟩
      rw [e63]
      refine ⟨_, .inl (.inl (.inl upd_same)), fun q3 hq3 => ⟨_, .inl (.inl upd_same), fun l hl => ⟨line _, fun p hp => ?_⟩⟩⟩
      have npl : l ≠ p := ne_of_none upd_same hp
      have s2 := sameU (o := .lst (ns.map V.int)) s1 hq2
      have s3 := sameU (o := .lst (ns.map V.int)) s2 hq3
      have s4 := sameU (o := .lst (ns.map V.int).reverse) s3 hl
      refine k p l _ (sameU s4 hp) (s4.free hp) (s3.free hl) ⟨ns.reverse, m, upd_same, ?_, ?_, by decide⟩
      · rw [upd_ne npl, upd_same, List.map_reverse]
      · rw [List.length_reverse]
        exact hn
theorem ok_law_take {f : Addr} {fd : FuncData} (F : Fun K "_law_take" "_law_take" s_law_take f fd) :
    FnG P w K mg base CX0 1 f fd ["_law_feed_here", "_law_many"] sp_take := by
  refine okG F sc_law_take (fun vs H Q E h => ?_) (fun cdv A outer s H vs Q E hr hq h => ?_)
  · obtain ⟨p, l, n, many, rfl, _⟩ := h
    rfl
  · obtain ⟨p, l, n, many, rfl, hF, hn, h0, h1, k⟩ := h
    have nd := sc_law_take.nd
    have npl := hF.ne
    obtain ⟨ns, m, hp, hl, hlen, _⟩ := hF
    refine ⟨_, (pss_cons (ps_asg (pe_op op_add (pe_ix (ixLK K) (pv 0) pe_int (fun _ _ => rfl)) pe_int) (pg_sub (pv 0) pe_int set_list))
      (pss_cons (ps_set (i := 2) nd rfl (Or.inl rfl) (pe_op op_add (pe_ix (ixLK K) (pv 0) pe_int (fun _ _ => rfl)) (pe_op op_mul pe_int (pe_ix (ixLK K) (pv 0) pe_int (fun _ _ => rfl)))))
      (pss_cons (ps_if (pt_cmpR (neDK K hr.units) (pe_ix (ixLK K) (pv 0) pe_int (fun _ _ => rfl)) (pe_lst pa_nil) (nomark _)) (pss_cons (ps_set (i := 3) nd rfl (Or.inl rfl) (bm0K K (pe_bm0 PySem.F.plainAttrs_list PySem.F.slot_list_pop PySem.F.type_list_pop mt_pop (pe_ix (ixLK K) (pv 0) pe_int (fun _ _ => rfl)))))
        (pss_cons (ps_if (pt_cmpR op_ge (pv 3) (pe_op op_pow pe_int pe_int) (nomark _)) (pss_cons (ps_expr (bmK K (pe_bm PySem.F.plainAttrs_list PySem.F.slot_list_append PySem.F.type_list_append mt_append (pe_ix (ixLK K) (pv 0) pe_int (fun _ _ => rfl)) (pa_cons (pe_op op_fdiv (pv 3) (pv 1)) pa_nil))))
          (pss_one (ps_ret (pe_op op_mod (pv 3) (pv 1))))) pss_nil)
        (pss_one (ps_set (i := 2) nd rfl (Or.inl rfl) (pe_op op_add (pv 2) (pv 3)))))) pss_nil)
      (pss_cons (ps_set (i := 2) nd rfl (Or.inl rfl) (pe_op op_add (pe_op op_mul (pe_op op_mod (pv 2) pe_int) pe_int) (pe_op op_mul (pe_op op_mul pe_int (pe_ix (ixLK K) (pv 0) pe_int (fun _ _ => rfl))) (pe_ix (ixLK K) (pv 0) pe_int (fun _ _ => rfl)))))
      (pss_cons (ps_set (i := 2) nd rfl (Or.inl rfl) (pe_op op_mod (pe_op op_add (pv 2) pe_int) pe_int))
      (pss_one (ps_ret (pe_op op_mod (pe_op op_fdiv (pe_op op_mod (pe_op op_mul (pv 2) (pe_op op_add (pe_op op_fdiv (pv 2) pe_int) pe_int)) pe_int) pe_int) (pv 1))))))))), ?_⟩
    simp only [tSeq, tAsg, gName, tVar, tC, tOp, tUn, tNil, tCons, tCall, tCB, tBM, tBM0, tSl, tNoPart, tPart, tRet, tRetN, tIf, tIfS, tB, tTest, tDrop, tNext, tTup, tLst, tAnd, tOr, tNot, tNotV, tYes, tIsN, tNotN, rI, rI0, rU, rEq, rNe, rPop, rAppend, rCat, rSetL, rIxL, rIxS, rSlL, tRevL, tFor_eq, tWhile_eq, tLc_eq, iList, iTup, iRng1, iRng2, iStr, iZip, gTup, gCons, gNil, gSub, L2.start, Lay.cx_K, CDiv, CDivN, CPow, List.map_cons, List.map_nil, List.length_cons, List.length_nil, List.replicate_succ, List.replicate_zero, List.cons_append, List.nil_append, List.append_nil, List.set_cons_zero, List.set_cons_succ, List.getElem?_cons_zero, List.getElem?_cons_succ, Option.some.injEq, exists_eq_left', V.int.injEq, V.str.injEq, V.ref.injEq, V.bl.injEq, List.cons.injEq, and_true, true_and, exists_and_left, exists_eq_left, exists_eq, and_assoc, Nat.reduceAdd, Nat.reduceSub, Nat.zero_add, exists_and_right, exists_const, L2.wipe, if_true, if_false, tBits, rLenK, rCopyK, rTupleK, N_law_take]
    have cast : ((n : Nat) : Int) + 1 = ((n + 1 : Nat) : Int) := rfl
    refine ⟨_, .inl (.inl hp), _, rfl, _, rfl, _, hp, _, rfl, ?_⟩
    rw [cast, show ([V.ref l, V.int m, V.int (n : Nat)].set (Int.toNat 2) (.int ((n + 1 : Nat) : Int))) = [V.ref l, V.int m, V.int ((n + 1 : Nat) : Int)] from rfl]
    generalize hG : upd H p (.lst [V.ref l, V.int m, V.int ((n + 1 : Nat) : Int)]) = G
    have gp : G p = some (.lst [V.ref l, V.int m, V.int ((n + 1 : Nat) : Int)]) := by rw [← hG]; exact upd_same
    have gl : G l = some (.lst (ns.map V.int)) := by rw [← hG, upd_ne (Ne.symm npl)]; exact hl
    have gk : Keep p l H G := fun b o e x y => by rw [← hG, upd_ne x]; exact e
    have small : CMul 16807 ((n + 1 : Nat) : Int) := .inl (by decide)
    refine ⟨_, .inl (.inl gp), _, rfl, _, .inl (.inl gp), _, rfl, _, rfl, small, _, rfl, _, .inl (.inl gp), _, rfl, by decide, fun e he => ?_⟩
    have ge : Same G (upd G e (.lst [])) := same_upd he
    refine ⟨.list (ns.map PyData.int), .list [], .lst (.inl (.inl (ge _ _ gl))) (dpInts ns), .lst (.inl (.inl upd_same)) .nil, shapedInts ns, shapedInts [], _, rfl, ?_⟩
    rw [eqvNil]
    have last : ∀ (c : Int) (G' : Hp) (a : List (Option V)), Feed G' p l (n + 1) → Keep p l H G' →
        Q (.int (c * (c / 3 + 48271) % 2147483549 / 64 % many)) G' := fun c G' a f g =>
      k _ G' (Int.emod_nonneg _ (by omega)) (Int.emod_lt_of_pos _ h0) f g
    have bound : ∀ c : Int, CMul (c % 2147483587) (c % 2147483587 / 3 + 48271) := fun c => by
      have a := Int.emod_nonneg c (show (2147483587 : Int) ≠ 0 by decide)
      have b := Int.emod_lt_of_pos c (show (0 : Int) < 2147483587 by decide)
      exact .inl ⟨by omega, by omega⟩
    have sq : CMul (7919 * ((n + 1 : Nat) : Int)) ((n + 1 : Nat) : Int) := .inr ⟨by omega, by omega⟩
    cases ns with
    | nil =>
      refine iteF ?_
      have fe : Feed (upd G e (.lst [])) p l (n + 1) := ⟨[], m, ge _ _ gp, ge _ _ gl, by decide, by omega⟩
      refine ⟨by decide, .inr (by decide), _, .inl (.inl (ge _ _ gp)), _, rfl, _, rfl, .inl (by decide), _, .inl (.inl (ge _ _ gp)), _, rfl, _, rfl, sq, by decide, by decide, by decide, bound _, by decide, by decide, by decide, h0, ?_⟩
      exact last _ _ [] fe (gk.trans (.of ge))
    | cons z r =>
      refine iteT ?_
      generalize hz : (z :: r) = zs at gl hlen hl
      have hne : zs ≠ [] := by rw [← hz]; simp
      clear hz
      have pop : (zs.map V.int)[(zs.map V.int).length - 1]? = some (.int (zs.getLast hne)) := by
        rw [List.length_map, List.getElem?_map, ← List.getLast?_eq_getElem?, List.getLast?_eq_getLast hne]
        rfl
      generalize zs.getLast hne = y at pop
      have dl : (zs.map V.int).dropLast = (zs.dropLast).map V.int := by rw [List.map_dropLast]
      have dlen : zs.dropLast.length < 63 := by
        rw [List.length_dropLast]
        have : 0 < zs.length := List.length_pos_iff.mpr hne
        omega
      refine ⟨_, .inl (.inl (ge _ _ gp)), _, rfl, .inl ⟨rfl, _, .inl (.inl (ge _ _ gl))⟩, l, rfl, _, ge _ _ gl, _, pop, by decide, by decide, by decide, _, rfl, ?_⟩
      rw [dl]
      generalize hG2 : upd (upd G e (.lst [])) l (.lst (zs.dropLast.map V.int)) = G2
      have g2p : G2 p = some (.lst [V.ref l, V.int m, V.int ((n + 1 : Nat) : Int)]) := by rw [← hG2, upd_ne npl]; exact ge _ _ gp
      have g2l : G2 l = some (.lst (zs.dropLast.map V.int)) := by rw [← hG2]; exact upd_same
      have g2k : Keep p l H G2 := gk.trans fun b o h x y => by rw [← hG2, upd_ne y]; exact ge _ _ h
      refine ite2 (fun c => ?_) (fun c => ?_)
      · refine ⟨_, .inl (.inl g2p), _, rfl, .inl ⟨rfl, _, .inl (.inl g2l)⟩, _, rfl, h0, by omega, l, rfl, _, g2l, ltline _ (by rw [List.length_map]; omega), _, rfl, h0, ?_⟩
        refine k _ _ (Int.emod_nonneg _ (by omega)) (Int.emod_lt_of_pos _ h0) ⟨zs.dropLast ++ [y / many], m, ?_, ?_, ?_, by omega⟩ (g2k.trans fun b o h x y => by rw [upd_ne y]; exact h)
        · rw [upd_ne npl]
          exact g2p
        · rw [upd_same, List.map_append]
          rfl
        · simp only [List.length_append, List.length_cons, List.length_nil]
          omega
      · refine ⟨_, rfl, by decide, .inr (by decide), _, .inl (.inl g2p), _, rfl, _, rfl, .inl (by decide), _, .inl (.inl g2p), _, rfl, _, rfl, sq, by decide, by decide, by decide, bound _, by decide, by decide, by decide, h0, ?_⟩
        exact last _ _ [] ⟨zs.dropLast, m, g2p, g2l, by omega, by omega⟩ g2k

def sp_one : Sp := fun vs H Q _ => ∃ (p l q : Addr) (n : Nat) (xs : List V), vs = [.ref p, .ref q] ∧ Feed H p l n ∧ n < 10 ^ 9 ∧
  H q = some (.lst xs) ∧ q ≠ p ∧ q ≠ l ∧ 0 < xs.length ∧ xs.length < 1000 ∧
  ∀ (i : Nat) x H', xs[i]? = some x → Feed H' p l (n + 1) → Keep p l H H' → Q x H'
theorem ok_law_one {f : Addr} {fd : FuncData} (F : Fun K "_law_one" "_law_one" s_law_one f fd) (z_len : mg "len" = none)
    (D_law_take : Has P w K mg base 1 "_law_take" ["_law_feed_here", "_law_many"] sp_take) :
    FnG P w K mg base CX0 2 f fd ["_law_feed_here", "_law_some"] sp_one := by
  refine okG F sc_law_one (fun vs H Q E h => ?_) (fun cdv A outer s H vs Q E hr hq h => ?_)
  · obtain ⟨p, l, q, n, xs, rfl, _⟩ := h
    rfl
  · obtain ⟨p, l, q, n, xs, rfl, hF, hn, hx, qp, ql, h0, h1, k⟩ := h
    have nd := sc_law_one.nd
    refine ⟨_, (pss_one (ps_ret (pe_ix (ixLK K) (pv 1) (pe_c D_law_take (hr.mono (by decide)) hq (pa_cons (pv 0) (pa_cons (pe_callB (lenK K) (by rfl) z_len (by decide +kernel) (pa_cons (pv 1) pa_nil)) pa_nil))) (fun _ _ => rfl)))), ?_⟩
    simp only [tSeq, tAsg, gName, tVar, tC, tOp, tUn, tNil, tCons, tCall, tCB, tBM, tBM0, tSl, tNoPart, tPart, tRet, tRetN, tIf, tIfS, tB, tTest, tDrop, tNext, tTup, tLst, tAnd, tOr, tNot, tNotV, tYes, tIsN, tNotN, rI, rI0, rU, rEq, rNe, rPop, rAppend, rCat, rSetL, rIxL, rIxS, rSlL, tRevL, tFor_eq, tWhile_eq, tLc_eq, iList, iTup, iRng1, iRng2, iStr, iZip, gTup, gCons, gNil, gSub, L2.start, Lay.cx_K, CDiv, CDivN, CPow, List.map_cons, List.map_nil, List.length_cons, List.length_nil, List.replicate_succ, List.replicate_zero, List.cons_append, List.nil_append, List.append_nil, List.set_cons_zero, List.set_cons_succ, List.getElem?_cons_zero, List.getElem?_cons_succ, Option.some.injEq, exists_eq_left', V.int.injEq, V.str.injEq, V.ref.injEq, V.bl.injEq, List.cons.injEq, and_true, true_and, exists_and_left, exists_eq_left, exists_eq, and_assoc, Nat.reduceAdd, Nat.reduceSub, Nat.zero_add, exists_and_right, exists_const, L2.wipe, if_true, if_false, tBits, rLenK, rCopyK, rTupleK, N_law_one]
    refine ⟨xs, .inl (.inl (.inl hx)), p, l, n, _, rfl, hF, hn, by omega, by omega, ?_⟩
    intro r H' r0 r1 f1 k1
    have hx' := k1 _ _ hx qp ql
    obtain ⟨j, hj⟩ : ∃ j : Nat, r = j := ⟨r.toNat, by omega⟩
    subst hj
    have hlt : j < xs.length := by omega
    have e : xs[j]? = some xs[j] := List.getElem?_eq_getElem hlt
    refine ⟨xs, j, rfl, .inl (.inl hx'), ?_⟩
    exact ⟨_, atI_nat e, k j _ H' e f1 k1⟩
/-- the same def, asked for a sign of a text -/
def sp_oneS : Sp := fun vs H Q _ => ∃ (p l : Addr) (n : Nat) (z : Str), vs = [.ref p, .str z] ∧ Feed H p l n ∧ n < 10 ^ 9 ∧ 0 < z.length ∧ z.length < 1000 ∧
  ∀ (i c : Nat) H', z.cps.toList[i]? = some c → Feed H' p l (n + 1) → Keep p l H H' → Q (.str ⟨#[c]⟩) H'
theorem ok_law_oneS {f : Addr} {fd : FuncData} (F : Fun K "_law_one" "_law_one" s_law_one f fd) (z_len : mg "len" = none)
    (D_law_take : Has P w K mg base 1 "_law_take" ["_law_feed_here", "_law_many"] sp_take) :
    FnG P w K mg base CX0 2 f fd ["_law_feed_here", "_law_some"] sp_oneS := by
  refine okG F sc_law_one (fun vs H Q E h => ?_) (fun cdv A outer s H vs Q E hr hq h => ?_)
  · obtain ⟨p, l, n, z, rfl, _⟩ := h
    rfl
  · obtain ⟨p, l, n, z, rfl, hF, hn, h0, h1, k⟩ := h
    have nd := sc_law_one.nd
    refine ⟨_, (pss_one (ps_ret (pe_ix ix_str (pv 1) (pe_c D_law_take (hr.mono (by decide)) hq (pa_cons (pv 0) (pa_cons (pe_callB call_len_str (by rfl) z_len (by decide +kernel) (pa_cons (pv 1) pa_nil)) pa_nil))) (fun _ _ => rfl)))), ?_⟩
    simp only [tSeq, tAsg, gName, tVar, tC, tOp, tUn, tNil, tCons, tCall, tCB, tBM, tBM0, tSl, tNoPart, tPart, tRet, tRetN, tIf, tIfS, tB, tTest, tDrop, tNext, tTup, tLst, tAnd, tOr, tNot, tNotV, tYes, tIsN, tNotN, rI, rI0, rU, rEq, rNe, rPop, rAppend, rCat, rSetL, rIxL, rIxS, rSlL, tRevL, tFor_eq, tWhile_eq, tLc_eq, iList, iTup, iRng1, iRng2, iStr, iZip, gTup, gCons, gNil, gSub, L2.start, Lay.cx_K, CDiv, CDivN, CPow, List.map_cons, List.map_nil, List.length_cons, List.length_nil, List.replicate_succ, List.replicate_zero, List.cons_append, List.nil_append, List.append_nil, List.set_cons_zero, List.set_cons_succ, List.getElem?_cons_zero, List.getElem?_cons_succ, Option.some.injEq, exists_eq_left', V.int.injEq, V.str.injEq, V.ref.injEq, V.bl.injEq, List.cons.injEq, and_true, true_and, exists_and_left, exists_eq_left, exists_eq, and_assoc, Nat.reduceAdd, Nat.reduceSub, Nat.zero_add, exists_and_right, exists_const, L2.wipe, if_true, if_false, tBits, rLenK, rCopyK, rTupleK, N_law_one]
    refine ⟨line _ (by omega), p, l, n, _, rfl, hF, hn, by omega, by omega, ?_⟩
    intro r H' r0 r1 f1 k1
    obtain ⟨j, hj⟩ : ∃ j : Nat, r = j := ⟨r.toNat, by omega⟩
    subst hj
    have lenz : z.length = z.cps.toList.length := by simp [Str.length]
    have hlt : j < z.cps.toList.length := by omega
    have e : z.cps.toList[j]? = some z.cps.toList[j] := List.getElem?_eq_getElem hlt
    exact ⟨j, rfl, line _ (by omega), _, atI_nat e, k j _ H' e f1 k1⟩
def sp_number : Sp := fun vs H Q _ => ∃ (p l : Addr) (n : Nat), vs = [.ref p] ∧ Feed H p l n ∧ n + 2 < 10 ^ 9 ∧
  ∀ (i : Int) H', 0 ≤ i → i ≤ 10 ^ 40 → Feed H' p l (n + 2) → Keep p l H H' → Q (.int i) H'
theorem ok_law_number {f : Addr} {fd : FuncData} (F : Fun K "_law_number" "_law_number" s_law_number f fd)
    (D_law_take : Has P w K mg base 1 "_law_take" ["_law_feed_here", "_law_many"] sp_take)
    (D_law_one : Has P w K mg base 2 "_law_one" ["_law_feed_here", "_law_some"] sp_one) :
    FnG P w K mg base CX0 3 f fd ["_law_feed_here"] sp_number := by
  refine okG F sc_law_number (fun vs H Q E h => ?_) (fun cdv A outer s H vs Q E hr hq h => ?_)
  · obtain ⟨p, l, n, rfl, _⟩ := h
    rfl
  · obtain ⟨p, l, n, rfl, hF, hn, k⟩ := h
    have nd := sc_law_number.nd
    refine ⟨_, (pss_one (ps_ret (pe_c D_law_one (hr.mono (by decide)) hq (pa_cons (pv 0) (pa_cons (pe_lst (pa_cons pe_int (pa_cons pe_int (pa_cons pe_int (pa_cons pe_int (pa_cons (pe_c D_law_take (hr.mono (by decide)) hq (pa_cons (pv 0) (pa_cons pe_int pa_nil))) (pa_cons (pe_op op_pow pe_int pe_int) (pa_cons (pe_op op_sub (pe_op op_pow pe_int pe_int) pe_int) pa_nil)))))))) pa_nil))))), ?_⟩
    simp only [tSeq, tAsg, gName, tVar, tC, tOp, tUn, tNil, tCons, tCall, tCB, tBM, tBM0, tSl, tNoPart, tPart, tRet, tRetN, tIf, tIfS, tB, tTest, tDrop, tNext, tTup, tLst, tAnd, tOr, tNot, tNotV, tYes, tIsN, tNotN, rI, rI0, rU, rEq, rNe, rPop, rAppend, rCat, rSetL, rIxL, rIxS, rSlL, tRevL, tFor_eq, tWhile_eq, tLc_eq, iList, iTup, iRng1, iRng2, iStr, iZip, gTup, gCons, gNil, gSub, L2.start, Lay.cx_K, CDiv, CDivN, CPow, List.map_cons, List.map_nil, List.length_cons, List.length_nil, List.replicate_succ, List.replicate_zero, List.cons_append, List.nil_append, List.append_nil, List.set_cons_zero, List.set_cons_succ, List.getElem?_cons_zero, List.getElem?_cons_succ, Option.some.injEq, exists_eq_left', V.int.injEq, V.str.injEq, V.ref.injEq, V.bl.injEq, List.cons.injEq, and_true, true_and, exists_and_left, exists_eq_left, exists_eq, and_assoc, Nat.reduceAdd, Nat.reduceSub, Nat.zero_add, exists_and_right, exists_const, L2.wipe, if_true, if_false, tBits, rLenK, rCopyK, rTupleK, tAndV, tOrV, tNotV, tChain, tMatch, tAsg2, tRevT, rIsiX, rIsX, rNeI, rNum, tPar, tM0, tM1, rEqE, rNeE, Bool.not_true, Bool.not_false, Bool.false_eq_true, N_law_number]
    refine ⟨p, l, n, 50, rfl, hF, by omega, by decide, by decide, ?_⟩
    intro r H1 r0 r1 f1 k1
    refine ⟨by decide, by decide, by decide, by decide, by decide, by decide, line _, fun q hq' => ?_⟩
    refine ⟨p, l, q, n + 1, _, rfl, feedU f1 hq', by omega, upd_same, (fresh f1 hq').1, (fresh f1 hq').2, by simp, by simp, ?_⟩
    intro i x H' hx f2 k2
    have hb : ∃ z : Int, x = .int z ∧ 0 ≤ z ∧ z ≤ 10 ^ 40 := by
      have hm := List.mem_of_getElem? hx
      simp only [List.mem_cons, List.not_mem_nil, or_false] at hm
      rcases hm with rfl | rfl | rfl | rfl | rfl | rfl | rfl
      · exact ⟨_, rfl, by decide, by decide⟩
      · exact ⟨_, rfl, by decide, by decide⟩
      · exact ⟨_, rfl, by decide, by decide⟩
      · exact ⟨_, rfl, by decide, by decide⟩
      · exact ⟨_, rfl, r0, by omega⟩
      · exact ⟨_, rfl, by decide, by decide⟩
      · exact ⟨_, rfl, by decide, by decide⟩
    obtain ⟨z, rfl, z0, z1⟩ := hb
    exact k z H' z0 z1 f2 ((keepU k1 hq').trans k2)
/-- cells of ints at the addresses of ks -/
def Cells (K : PySem.W.Frag) (G : Hp) (ks : List (Addr × List Int)) : Prop := ∀ r ∈ ks, SqT K G r.1 (r.2.map V.int) ∧ r.2.length = 2 ∧ ∀ i ∈ r.2, 0 ≤ i ∧ i ≤ 10 ^ 40 + 1
theorem Cells.sub {K : PySem.W.Frag} {G F : Hp} {ks : List (Addr × List Int)} (h : Cells K G ks) (s : Same G F) : Cells K F ks := fun r hr => ⟨sameT s (h r hr).1, (h r hr).2⟩
theorem Cells.snoc {K : PySem.W.Frag} {G : Hp} {ks : List (Addr × List Int)} {a : Addr} {i j : Int} (h : Cells K G ks) (ha : SqT K G a [.int i, .int j]) (hi : 0 ≤ i ∧ i ≤ 10 ^ 40 + 1) (hj : 0 ≤ j ∧ j ≤ 10 ^ 40 + 1) : Cells K G (ks ++ [(a, [i, j])]) := by
  intro r hr
  rcases List.mem_append.mp hr with hr | hr
  · exact h r hr
  · cases List.mem_singleton.mp hr
    refine ⟨ha, rfl, ?_⟩
    intro x hx
    simp only [List.mem_cons, List.not_mem_nil, or_false] at hx
    rcases hx with rfl | rfl
    · exact hi
    · exact hj
def sp_cells (K : PySem.W.Frag) : Sp := fun vs H Q _ => ∃ (p l : Addr) (n : Nat) (many : Int), vs = [.ref p, .int many] ∧ Feed H p l n ∧ 0 ≤ many ∧ many ≤ 5 ∧ n + 20 < 10 ^ 9 ∧
  ∀ (q : Addr) (ks : List (Addr × List Int)) H' n', H' q = some (.lst (ks.map fun p => V.ref p.1)) → q ≠ p → q ≠ l → ks.length < 64 → Cells K (off [p, l] H') ks →
    n' ≤ n + 20 → Feed H' p l n' → Keep p l H H' → Q (.ref q) H'
theorem cells_end {p l : Addr} {n n' : Nat} {H G : Hp} {q : Addr} {ks : List (Addr × List Int)} {Q : VK} (hG : G q = some (.lst (ks.map fun p => V.ref p.1))) (hc : Cells K (off [p, l] G) ks) (hl : ks.length < 64)
    (hF : Feed G p l n') (hn : n' ≤ n + 20) (kG : Keep p l H G)
    (k : ∀ (q : Addr) (ks : List (Addr × List Int)) H' n', H' q = some (.lst (ks.map fun p => V.ref p.1)) → q ≠ p → q ≠ l → ks.length < 64 → Cells K (off [p, l] H') ks →
      n' ≤ n + 20 → Feed H' p l n' → Keep p l H H' → Q (.ref q) H') : rSetOfT K P w [.ref q] G fun x H1 => rSortedT K P w [x] H1 Q := by
  have hcG : Cells K G ks := hc.sub (off_sub _ _)
  refine ⟨q, ks, rfl, .inl (.inl hG), fun r hr => (hcG r hr).1, hl, fun a L ha hsub hall => ?_⟩
  refine ⟨a, L, 2, 10 ^ 41, rfl, upd_same, fun r hr => sameT (same_upd ha) (hcG r (hsub r hr)).1, by decide, fun r hr => ⟨(hcG r (hsub r hr)).2.1, ?_⟩, fun L' p' perm nodup hlt srt hp' => ?_⟩
  · intro m hm
    have := (hcG r (hsub r hr)).2.2 m hm
    omega
  · have fa := feedU (o := SetTO P w a L) hF ha
    have fp := feedU (o := .lst (L'.map fun q => V.ref q.1)) fa hp'
    refine k p' L' _ n' upd_same (fresh fa hp').1 (fresh fa hp').2 hlt ?_ hn fp (keepU (keepU kG ha) hp')
    have c2 := hc.sub ((off_same (S := [p, l]) (same_upd (o := SetTO P w a L) ha)).trans (off_same (same_upd (o := .lst (L'.map fun q => V.ref q.1)) hp')))
    exact fun r hr => c2 r (hsub r (perm.mem_iff.mp hr))
theorem ok_law_cells {f : Addr} {fd : FuncData} (F : Fun K "_law_cells" "_law_cells" s_law_cells f fd) (z_range : mg "range" = none) (z_set : mg "set" = none) (z_sorted : mg "sorted" = none)
    (D_law_take : Has P w K mg base 1 "_law_take" ["_law_feed_here", "_law_many"] sp_take)
    (D_law_number : Has P w K mg base 3 "_law_number" ["_law_feed_here"] sp_number) :
    FnG P w K mg base CX0 4 f fd ["_law_feed_here", "_law_many"] (sp_cells K) := by
  refine okG F sc_law_cells (fun vs H Q E h => ?_) (fun cdv A outer s H vs Q E hr hq h => ?_)
  · obtain ⟨p, l, n, many, rfl, _⟩ := h
    rfl
  · obtain ⟨p, l, n, many, rfl, hF, m0, m5, hn, k⟩ := h
    have nd := sc_law_cells.nd
    refine ⟨_, (pss_cons (ps_set (i := 2) nd rfl (Or.inr rfl) (pe_c D_law_number (hr.mono (by decide)) hq (pa_cons (pv 0) pa_nil)))
      (pss_cons (ps_setLc (i := 3) (own := [("_law_k", 4)]) (g := gName 4) rfl nd rfl rfl (sw_true rfl rfl rfl (by decide +kernel)) (pi_range1 (by rfl) z_range (pa_cons (pv 1) pa_nil)) (blkOk_by (own := [("_law_k", 4)]) (N := N_law_cells) (sc := defScope s_law_cells) (by decide +kernel)) (fun _ _ _ _ _ => (pg_name (i := 4) nd rfl (by first | exact Or.inl rfl | exact Or.inr rfl))) (fun _ _ _ _ _ => pts_nil) (fun _ _ _ _ _ => (pe_tup (pa_cons (pv 2) (pa_cons (pe_c D_law_number (hr.mono (by decide)) hq (pa_cons (pv 0) pa_nil)) pa_nil)))))
      (pss_cons (ps_if (pt_cmpR op_eq (pe_c D_law_take (hr.mono (by decide)) hq (pa_cons (pv 0) (pa_cons pe_int pa_nil))) pe_int (nomark _)) (pss_one (ps_set (i := 3) nd rfl (Or.inl rfl) (pe_op op_cat (pv 3) (pe_lst (pa_cons (pe_tup (pa_cons (pe_op op_add (pv 2) pe_int) (pa_cons (pe_c D_law_number (hr.mono (by decide)) hq (pa_cons (pv 0) pa_nil)) pa_nil))) pa_nil))))) pss_nil)
      (pss_one (ps_ret (pe_callB (cr_sortedT rfl) (by rfl) z_sorted (by decide +kernel) (pa_cons (pe_callTy (cr_setOfT rfl hr.units) (by rfl) z_set (by decide +kernel) (pa_cons (pv 3) pa_nil)) pa_nil))))))), ?_⟩
    simp only [tSeq, tAsg, gName, tVar, tC, tOp, tUn, tNil, tCons, tCall, tCB, tBM, tBM0, tSl, tNoPart, tPart, tRet, tRetN, tIf, tIfS, tB, tTest, tDrop, tNext, tTup, tLst, tAnd, tOr, tNot, tNotV, tYes, tIsN, tNotN, rI, rI0, rU, rEq, rNe, rPop, rAppend, rCat, rSetL, rIxL, rIxS, rSlL, tRevL, tFor_eq, tWhile_eq, tLc_eq, iList, iTup, iRng1, iRng2, iStr, iZip, gTup, gCons, gNil, gSub, L2.start, Lay.cx_K, CDiv, CDivN, CPow, List.map_cons, List.map_nil, List.length_cons, List.length_nil, List.replicate_succ, List.replicate_zero, List.cons_append, List.nil_append, List.append_nil, List.set_cons_zero, List.set_cons_succ, List.getElem?_cons_zero, List.getElem?_cons_succ, Option.some.injEq, exists_eq_left', V.int.injEq, V.str.injEq, V.ref.injEq, V.bl.injEq, List.cons.injEq, and_true, true_and, exists_and_left, exists_eq_left, exists_eq, and_assoc, Nat.reduceAdd, Nat.reduceSub, Nat.zero_add, exists_and_right, exists_const, L2.wipe, if_true, if_false, tBits, rLenK, rCopyK, rTupleK, tAndV, tOrV, tNotV, tChain, tMatch, tAsg2, tRevT, rIsiX, rIsX, rNeI, rNum, tPar, tM0, tM1, rEqE, rNeE, Bool.not_true, Bool.not_false, Bool.false_eq_true, N_law_cells]
    refine ⟨p, l, n, rfl, hF, by omega, fun bl H1 b0 b1 f1 k1 => ⟨by omega, by omega, fun L hL => ?_⟩⟩
    have nL := fresh f1 hL
    have HL := backN k1 f1 hL
    refine CLoop.range (fun i acc G => ∃ ks ni, acc = ks.map (fun r : Addr × List Int => V.ref r.1) ∧ ks.length = i ∧ Cells K (off [p, l, L] G) ks ∧ ni ≤ n + 2 + 2 * i ∧ Feed G p l ni ∧ Keep p l H G)
      ⟨[], n + 2, rfl, rfl, (fun r hr => by cases hr), by omega, feedU f1 hL, keepU k1 hL⟩ upd_same ?_ ?_
    · rintro i acc G hi ⟨ks, ni, rfl, lk, hc, hni, fG, kG⟩ hGL N hN
      simp only [tSeq, tAsg, gName, tVar, tC, tOp, tUn, tNil, tCons, tCall, tCB, tBM, tBM0, tSl, tNoPart, tPart, tRet, tRetN, tIf, tIfS, tB, tTest, tDrop, tNext, tTup, tLst, tAnd, tOr, tNot, tNotV, tYes, tIsN, tNotN, rI, rI0, rU, rEq, rNe, rPop, rAppend, rCat, rSetL, rIxL, rIxS, rSlL, tRevL, tFor_eq, tWhile_eq, tLc_eq, iList, iTup, iRng1, iRng2, iStr, iZip, gTup, gCons, gNil, gSub, L2.start, Lay.cx_K, CDiv, CDivN, CPow, List.map_cons, List.map_nil, List.length_cons, List.length_nil, List.replicate_succ, List.replicate_zero, List.cons_append, List.nil_append, List.append_nil, List.set_cons_zero, List.set_cons_succ, List.getElem?_cons_zero, List.getElem?_cons_succ, Option.some.injEq, exists_eq_left', V.int.injEq, V.str.injEq, V.ref.injEq, V.bl.injEq, List.cons.injEq, and_true, true_and, exists_and_left, exists_eq_left, exists_eq, and_assoc, Nat.reduceAdd, Nat.reduceSub, Nat.zero_add, exists_and_right, exists_const, L2.wipe, if_true, if_false, tBits, rLenK, rCopyK, rTupleK, tAndV, tOrV, tNotV, tChain, tMatch, tAsg2, tRevT, rIsiX, rIsX, rNeI, rNum, tPar, tM0, tM1, rEqE, rNeE, Bool.not_true, Bool.not_false, Bool.false_eq_true]
      refine ⟨p, l, ni, rfl, fG, by omega, fun z G2 z0 z1 f2 k2 => ⟨line _, fun t ht => ?_⟩⟩
      have hL2 := k2 _ _ hGL nL.1 nL.2
      have tL : t ≠ L := fun e => by rw [e, hL2] at ht; cases ht
      have hL3 : upd G2 t (.tup [.int bl, .int z]) L = some (.lst (ks.map fun r => V.ref r.1)) := by rw [upd_ne (Ne.symm tL)]; exact hL2
      refine ⟨_, hL3, ltline _ (by rw [List.length_map]; omega), hN _ _ ⟨ks ++ [(t, [bl, z])], ni + 2, by simp, by simp [lk], ?_, by omega, (feedU f2 ht).upd (Ne.symm (Ne.symm nL.1)) nL.2, keepW (keepU (kG.trans k2) ht) HL⟩ upd_same⟩
      rw [off_upd (by simp)]
      refine Cells.snoc (hc.sub ((k2.off (by simp) (by simp)).trans (off_same (same_upd ht)))) (.inl (.inl (off_new3 f2 ht hL2))) ⟨b0, by omega⟩ ⟨z0, by omega⟩
    · rintro acc G ⟨ks, ni, rfl, lk, hc, hni, fG, kG⟩ hGL
      have c2 : Cells K (off [p, l] G) ks := hc.sub (off_less G (by simp))
      have hm : many.toNat ≤ 5 := by omega
      refine ⟨p, l, ni, 3, rfl, fG, by omega, by decide, by decide, fun r G2 r0 r1 f2 k2 => ⟨rfl, ?_⟩⟩
      have hL2 := k2 _ _ hGL nL.1 nL.2
      have c3 := c2.sub (k2.off (S := [p, l]) (by simp) (by simp))
      refine ite2 (fun c => ?_) (fun c => ?_)
      · refine ⟨bl, rfl, p, l, ni + 1, rfl, f2, by omega, fun z G3 z0 z1 f3 k3 => ⟨line _, fun t ht => ⟨line _, fun u hu => ?_⟩⟩⟩
        have hL3 := same_upd (o := .lst [.ref t]) hu _ _ (same_upd (o := .tup [.int (bl + 1), .int z]) ht _ _ (k3 _ _ hL2 nL.1 nL.2))
        refine ⟨L, rfl, _, hL3, _, upd_same, line _ (by rw [List.length_map]; simp only [List.length_cons, List.length_nil]; omega), fun q hq' => ?_⟩
        have f4 := feedU (o := .tup [.int (bl + 1), .int z]) f3 ht
        have f5 := feedU (o := .lst [.ref t]) f4 hu
        have c4 := (((c3.sub (k3.off (S := [p, l]) (by simp) (by simp))).sub (off_same (same_upd (o := .tup [.int (bl + 1), .int z]) ht))).snoc (a := t) (i := bl + 1) (j := z) (.inl (.inl (off_new f3 ht))) ⟨by omega, by omega⟩ ⟨z0, by omega⟩)
        have c5 := c4.sub ((off_same (same_upd (o := .lst [.ref t]) hu)).trans (off_same (same_upd (o := .lst (ks.map (fun r => V.ref r.1) ++ [V.ref t])) hq')))
        refine cells_end (n' := ni + 3) ?_ c5 (by simp only [List.length_append, List.length_singleton]; omega) (feedU f5 hq') (by omega) (keepU (keepU (keepU ((kG.trans k2).trans k3) ht) hu) hq') k
        rw [upd_same]
        simp
      · exact cells_end hL2 c3 (by omega) f2 (by omega) (kG.trans k2) k
end
end C02
namespace C02
open PySem PySem.Spec PyProof.Rows L2 Lay M02
theorem join_signs : ∀ (ys : List Str), (∀ y ∈ ys, ∀ c ∈ y.cps.toList, c < 128) → ∀ c ∈ (Str.join (Str.ofString "") ys).cps.toList, c < 128
  | [], _, c, h => by
    have : (Str.join (Str.ofString "") []).cps.toList = [] := by decide +kernel
    rw [this] at h
    cases h
  | [x], hx, c, h => hx x (List.mem_cons_self ..) c h
  | x :: y :: r, hx, c, h => by
    have e : (Str.join (Str.ofString "") (x :: y :: r)).cps.toList = x.cps.toList ++ (Str.join (Str.ofString "") (y :: r)).cps.toList := by
      show (x ++ Str.ofString "" ++ Str.join (Str.ofString "") (y :: r)).cps.toList = _
      have : ∀ a b : Str, (a ++ b).cps.toList = a.cps.toList ++ b.cps.toList := fun a b => by
        show (a.cps ++ b.cps).toList = _
        exact Array.toList_append
      rw [this, this]
      have : (Str.ofString "").cps.toList = [] := by decide +kernel
      rw [this, List.append_nil]
    rw [e] at h
    rcases List.mem_append.mp h with h | h
    · exact hx x (List.mem_cons_self ..) c h
    · exact join_signs (y :: r) (fun z hz => hx z (List.mem_cons_of_mem _ hz)) c h
theorem join_len (ys : List Str) (h : ∀ y ∈ ys, y.length = 1) : (Txt.join (Str.ofString "") ys).length ≤ ys.length := by
  unfold Txt.join
  rw [StrLaws.glued_eq_join]
  refine Nat.le_trans (StrLaws.join_length_le _ _) ?_
  have e : (Str.ofString "").length = 0 := by decide +kernel
  rw [e, Nat.mul_zero, Nat.add_zero]
  clear e
  induction ys with
  | nil => exact Nat.le_refl _
  | cons y r ih =>
    rw [List.map_cons, List.sum_cons, List.length_cons, h y (List.mem_cons_self ..)]
    have := ih (fun z hz => h z (List.mem_cons_of_mem _ hz))
    omega
theorem off_fresh {p l L : Addr} {G : Hp} {o : HO} (h : G L = none) : Same (off [p, l] G) (off [p, l, L] (upd G L o)) := by
  intro b u e
  obtain ⟨h1, h2⟩ := off_some e
  have nL : b ≠ L := ne_of_none h2 h
  refine off_of ?_ (by rw [upd_ne nL]; exact h2)
  simp only [List.mem_cons, List.not_mem_nil, or_false, not_or] at h1 ⊢
  exact ⟨h1.1, h1.2, nL⟩
theorem depthAll_app : ∀ (a b : List PyData) (m : Nat), PyData.depthAll a ≤ m → PyData.depthAll b ≤ m → PyData.depthAll (a ++ b) ≤ m
  | [], b, m, _, h => h
  | x :: r, b, m, h1, h2 => by
    simp only [List.cons_append, PyData.depthAll] at h1 ⊢
    have := depthAll_app r b m (by omega) h2
    omega
theorem fineAll_app {B : Nat} (a b : List PyData) : fineAll B (a ++ b) = (fineAll B a && fineAll B b) := by
  induction a with
  | nil => simp [fineAll]
  | cons x r ih => simp [fineAll, ih, Bool.and_assoc]
section
variable {P : Program} {w : World} {K : PySem.W.Frag} {mg : Str → Option Value} {base : Heap}
def sp_made (K : PySem.W.Frag) : Sp := fun vs H Q _ => ∃ (p l : Addr) (n : Nat), vs = [.ref p] ∧ Feed H p l n ∧ n + 300 < 10 ^ 9 ∧
  ∀ (q : Addr) (ds : List PyData) H' n', Dx K (off [p, l] H') (.ref q) (.tuple ds) → Gd (10 ^ 40 + 1) 20000 3 (.tuple ds) → n' ≤ n + 300 → Feed H' p l n' → Keep p l H H' → Q (.ref q) H'
theorem ok_law_made {f : Addr} {fd : FuncData} (F : Fun K "_law_made" "_law_made" s_law_made f fd) (z_tuple : mg "tuple" = none)
    (D_law_take : Has P w K mg base 1 "_law_take" ["_law_feed_here", "_law_many"] sp_take)
    (D_law_one : Has P w K mg base 2 "_law_one" ["_law_feed_here", "_law_some"] sp_one)
    (D_law_number : Has P w K mg base 3 "_law_number" ["_law_feed_here"] sp_number)
    (D_law_cells : Has P w K mg base 4 "_law_cells" ["_law_feed_here", "_law_many"] (sp_cells K)) :
    FnG P w K mg base CX0 5 f fd ["_law_feed_here"] (sp_made K) := by
  refine okG F sc_law_made (fun vs H Q E h => ?_) (fun cdv A outer s H vs Q E hr hq h => ?_)
  · obtain ⟨p, l, n, rfl, _⟩ := h
    rfl
  · obtain ⟨p, l, n, rfl, hF, hn, k⟩ := h
    have nd := sc_law_made.nd
    refine ⟨_, (pss_one (ps_ret (pe_callTy (tupleK K) (by rfl) z_tuple (by decide +kernel) (pa_cons (pe_lc (own := [("_law_cell", 1)]) (g := gName 1) rfl nd (piL K (pi_list (pe_c D_law_cells (hr.mono (by decide)) hq (pa_cons (pv 0) (pa_cons (pe_c D_law_take (hr.mono (by decide)) hq (pa_cons (pv 0) (pa_cons pe_int pa_nil))) pa_nil))))) (blkOk_by (own := [("_law_cell", 1)]) (N := N_law_made) (sc := defScope s_law_made) (by decide +kernel)) (fun _ _ _ _ _ => (pg_name (i := 1) nd rfl (by first | exact Or.inl rfl | exact Or.inr rfl))) (fun _ _ _ _ _ => pts_nil) (fun _ _ _ _ _ => (pe_tup (pa_cons (pv 1) (pa_cons (pe_op op_mul (pe_c D_law_one (hr.mono (by decide)) hq (pa_cons (pv 0) (pa_cons (pe_lst (pa_cons pe_int (pa_cons (pe_un un_neg pe_int) pa_nil))) pa_nil))) (pe_c D_law_number (hr.mono (by decide)) hq (pa_cons (pv 0) pa_nil))) pa_nil))))) pa_nil)))), ?_⟩
    simp only [tSeq, tAsg, gName, tVar, tC, tOp, tUn, tNil, tCons, tCall, tCB, tBM, tBM0, tSl, tNoPart, tPart, tRet, tRetN, tIf, tIfS, tB, tTest, tDrop, tNext, tTup, tLst, tAnd, tOr, tNot, tNotV, tYes, tIsN, tNotN, rI, rI0, rU, rEq, rNe, rPop, rAppend, rCat, rSetL, rIxL, rIxS, rSlL, tRevL, tFor_eq, tWhile_eq, tLc_eq, iList, iTup, iRng1, iRng2, iStr, iZip, gTup, gCons, gNil, gSub, L2.start, Lay.cx_K, CDiv, CDivN, CPow, List.map_cons, List.map_nil, List.length_cons, List.length_nil, List.replicate_succ, List.replicate_zero, List.cons_append, List.nil_append, List.append_nil, List.set_cons_zero, List.set_cons_succ, List.getElem?_cons_zero, List.getElem?_cons_succ, Option.some.injEq, exists_eq_left', V.int.injEq, V.str.injEq, V.ref.injEq, V.bl.injEq, List.cons.injEq, and_true, true_and, exists_and_left, exists_eq_left, exists_eq, and_assoc, Nat.reduceAdd, Nat.reduceSub, Nat.zero_add, exists_and_right, exists_const, L2.wipe, if_true, if_false, tBits, rLenK, rCopyK, rTupleK, tAndV, tOrV, tNotV, tChain, tMatch, tAsg2, tRevT, rIsiX, rIsX, rNeI, rNum, tPar, tM0, tM1, rEqE, rNeE, Bool.not_true, Bool.not_false, Bool.false_eq_true, N_law_made]
    refine ⟨p, l, n, 5, rfl, hF, by omega, by decide, by decide, fun m H1 m0 m1 f1 k1 => ?_⟩
    refine ⟨p, l, n + 1, m, rfl, f1, m0, by omega, by omega, fun q ks H2 n2 h2 qp ql lk hc hn2 f2 k2 => ?_⟩
    refine ⟨q, rfl, ⟨_, .inl (.inl h2)⟩, fun L hL => ?_⟩
    have nL := fresh f2 hL
    have k12 := k1.trans k2
    have HL := backN k12 f2 hL
    have c0 : Cells K (off [p, l, L] (upd H2 L (.lst []))) ks := hc.sub (off_fresh hL)
    have qL : q ≠ L := fun e => by rw [e, hL] at h2; cases h2
    refine CLoop.list (ks.map fun r : Addr × List Int => V.ref r.1) (fun i acc G => ∃ ds ni, G q = some (.lst (ks.map fun r => V.ref r.1)) ∧ Cells K (off [p, l, L] G) ks ∧ DxAll K (off [p, l, L] G) acc ds ∧ ds.length = i ∧
        fineAll (10 ^ 40 + 1) ds = true ∧ wtAll ds ≤ 200 * i ∧ PyData.depthAll ds ≤ 2 ∧ ni ≤ n2 + 3 * i ∧ Feed G p l ni ∧ Keep p l H G)
      ⟨[], n2, by rw [upd_ne qL]; exact h2, c0, .nil, rfl, rfl, by simp [wtAll], by simp [PyData.depthAll], by omega, feedU f2 hL, keepU k12 hL⟩ upd_same ?_ ?_ ?_
    · rintro i acc G ⟨ds, ni, hq', _⟩ _
      exact .inl (.inl hq')
    · rintro i x acc G hx ⟨ds, ni, hq', hc', hd, ld, fd, wd, dd, hni, fG, kG⟩ hGL N hN
      have hi : i < ks.length := by
        have := (List.getElem?_eq_some_iff.mp hx).1
        rwa [List.length_map] at this
      obtain ⟨r, hr1, rfl⟩ : ∃ r, r ∈ ks ∧ x = .ref r.1 := by
        rw [List.getElem?_map] at hx
        cases e : ks[i]? with
        | none => rw [e] at hx; cases hx
        | some r => rw [e] at hx; exact ⟨r, List.mem_of_getElem? e, (Option.some.inj hx).symm⟩
      obtain ⟨hrt, hr2, hrb⟩ := hc' r hr1
      obtain ⟨a, b, hab⟩ : ∃ a b, r.2 = [a, b] := by
        match h : r.2, hr2 with
        | [a, b], _ => exact ⟨a, b, rfl⟩
      rw [hab] at hrt hrb
      have ba := hrb a (by simp)
      have bb := hrb b (by simp)
      simp only [tSeq, tAsg, gName, tVar, tC, tOp, tUn, tNil, tCons, tCall, tCB, tBM, tBM0, tSl, tNoPart, tPart, tRet, tRetN, tIf, tIfS, tB, tTest, tDrop, tNext, tTup, tLst, tAnd, tOr, tNot, tNotV, tYes, tIsN, tNotN, rI, rI0, rU, rEq, rNe, rPop, rAppend, rCat, rSetL, rIxL, rIxS, rSlL, tRevL, tFor_eq, tWhile_eq, tLc_eq, iList, iTup, iRng1, iRng2, iStr, iZip, gTup, gCons, gNil, gSub, L2.start, Lay.cx_K, CDiv, CDivN, CPow, List.map_cons, List.map_nil, List.length_cons, List.length_nil, List.replicate_succ, List.replicate_zero, List.cons_append, List.nil_append, List.append_nil, List.set_cons_zero, List.set_cons_succ, List.getElem?_cons_zero, List.getElem?_cons_succ, Option.some.injEq, exists_eq_left', V.int.injEq, V.str.injEq, V.ref.injEq, V.bl.injEq, List.cons.injEq, and_true, true_and, exists_and_left, exists_eq_left, exists_eq, and_assoc, Nat.reduceAdd, Nat.reduceSub, Nat.zero_add, exists_and_right, exists_const, L2.wipe, if_true, if_false, tBits, rLenK, rCopyK, rTupleK, tAndV, tOrV, tNotV, tChain, tMatch, tAsg2, tRevT, rIsiX, rIsX, rNeI, rNum, tPar, tM0, tM1, rEqE, rNeE, Bool.not_true, Bool.not_false, Bool.false_eq_true]
      refine ⟨line _, fun u hu => ⟨p, l, u, ni, _, rfl, feedU fG hu, by omega, upd_same, (fresh fG hu).1, (fresh fG hu).2, by simp, by simp, fun j y G2 hy f3 k3 => ?_⟩⟩
      have hy' : y = .int 1 ∨ y = .int (-1) := by
        have := List.mem_of_getElem? hy
        simpa using this
      obtain ⟨sg, rfl, hs⟩ : ∃ sg : Int, y = .int sg ∧ (sg = 1 ∨ sg = -1) := by
        rcases hy' with rfl | rfl
        · exact ⟨_, rfl, .inl rfl⟩
        · exact ⟨_, rfl, .inr rfl⟩
      refine ⟨p, l, ni + 1, rfl, f3, by omega, fun z G3 z0 z1 f4 k4 => ⟨sg, rfl, z, rfl, .inl (by rcases hs with rfl | rfl <;> decide), line _, fun t ht => ?_⟩⟩
      have kG2 := (keepU kG hu).trans (k3.trans k4)
      have kk := (Keep.of (same_upd (o := .lst [.int 1, .int (-1)]) hu)).trans (k3.trans k4)
      have hL3 := kk _ _ hGL nL.1 nL.2
      have hq3 := kk _ _ hq' qp ql
      have tL : t ≠ L := fun e => by rw [e, hL3] at ht; cases ht
      have hL4 : upd G3 t (.tup [.ref r.1, .int (sg * z)]) L = some (.lst acc) := by rw [upd_ne (Ne.symm tL)]; exact hL3
      have sOff := (kk.off (S := [p, l, L]) (by simp) (by simp)).trans (off_same (same_upd (o := .tup [.ref r.1, .int (sg * z)]) ht))
      have dcell : Dx K (off [p, l, L] (upd G3 t (.tup [.ref r.1, .int (sg * z)]))) (.ref r.1) (.tuple [.int a, .int b]) := .tup (sameT sOff hrt) (.cons (.int a) (.cons (.int b) .nil))
      have dnew : Dx K (off [p, l, L] (upd G3 t (.tup [.ref r.1, .int (sg * z)]))) (.ref t) (.tuple [.tuple [.int a, .int b], .int (sg * z)]) :=
        .tup (.inl (.inl (off_new3 f4 ht hL3))) (.cons dcell (.cons (.int _) .nil))
      refine ⟨acc, hL4, ltline _ (by rw [hd.len, ld]; omega), hN _ _ ⟨ds ++ [.tuple [.tuple [.int a, .int b], .int (sg * z)]], ni + 3, ?_, ?_, ?_, by simp [ld], ?_, ?_, ?_, by omega, (feedU f4 ht).upd nL.1 nL.2, keepW (keepU kG2 ht) HL⟩ upd_same⟩
      · rw [upd_ne qL]
        exact same_upd ht _ _ hq3
      · rw [off_upd (by simp)]
        exact hc'.sub sOff
      · rw [off_upd (by simp)]
        exact (hd.sub sOff).snoc dnew
      · rw [fineAll_app, fd]
        have e3 : (sg * z).natAbs ≤ 10 ^ 40 + 1 := by
          rcases hs with rfl | rfl
          · omega
          · omega
        simp only [fineAll, fine, Bool.and_true, Bool.true_and, Bool.and_eq_true, decide_eq_true_eq]
        omega
      · rw [wtAll_app]
        simp only [wtAll, wt]
        omega
      · refine depthAll_app _ _ _ dd ?_
        simp [PyData.depthAll, PyData.depth]
    · rintro acc G ⟨ds, ni, hq', hc', hd, ld, fd, wd, dd, hni, fG, kG⟩ hGL
      rw [List.length_map] at ld wd
      refine ⟨L, rfl, acc, .inl ⟨.inl (.inl hGL), fun t ht => ?_⟩⟩
      have s2 := (off_less (T := [p, l]) G (by simp) : Same (off [p, l, L] G) _).trans (off_same (same_upd (o := .tup acc) ht))
      refine k t ds _ ni (.tup (.inl (.inl (off_new fG ht))) (hd.sub s2)) ⟨by simpa only [fine] using fd, ?_, ?_⟩ ?_ (feedU fG ht) (keepU kG ht)
      · simp only [wt]
        omega
      · simp only [PyData.depth]
        omega
      · rw [List.length_map] at hni
        omega
def sp_word : Sp := fun vs H Q _ => ∃ (p l : Addr) (n : Nat), vs = [.ref p] ∧ Feed H p l n ∧ n + 20 < 10 ^ 9 ∧
  ∀ (x : Str) H' n', x.length ≤ 8 → (∀ c ∈ x.cps.toList, c < 128) → n' ≤ n + 20 → Feed H' p l n' → Keep p l H H' → Q (.str x) H'
theorem ok_law_word {f : Addr} {fd : FuncData} (F : Fun K "_law_word" "_law_word" s_law_word f fd) (z_range : mg "range" = none)
    (D_law_take : Has P w K mg base 1 "_law_take" ["_law_feed_here", "_law_many"] sp_take)
    (D_law_one : Has P w K mg base 2 "_law_one" ["_law_feed_here", "_law_some"] sp_one)
    (D_law_oneS : Has P w K mg base 2 "_law_one" ["_law_feed_here", "_law_some"] sp_oneS) :
    FnG P w K mg base CX0 3 f fd ["_law_feed_here"] sp_word := by
  refine okG F sc_law_word (fun vs H Q E h => ?_) (fun cdv A outer s H vs Q E hr hq h => ?_)
  · obtain ⟨p, l, n, rfl, _⟩ := h
    rfl
  · obtain ⟨p, l, n, rfl, hF, hn, k⟩ := h
    have nd := sc_law_word.nd
    refine ⟨_, (pss_cons (ps_set (i := 1) nd rfl (Or.inr rfl) pe_str)
      (pss_cons (ps_set (i := 2) nd rfl (Or.inl rfl) (pe_c D_law_one (hr.mono (by decide)) hq (pa_cons (pv 0) (pa_cons (pe_lst (pa_cons pe_int (pa_cons pe_int (pa_cons (pe_op op_add pe_int (pe_c D_law_take (hr.mono (by decide)) hq (pa_cons (pv 0) (pa_cons pe_int pa_nil)))) pa_nil)))) pa_nil))))
      (pss_one (ps_ret (pe_join pe_str (pe_lc (own := [("_law_k", 3)]) (g := gName 3) rfl nd (pi_range1 (by rfl) z_range (pa_cons (pv 2) pa_nil)) (blkOk_by (own := [("_law_k", 3)]) (N := N_law_word) (sc := defScope s_law_word) (by decide +kernel)) (fun _ _ _ _ _ => (pg_name (i := 3) nd rfl (by first | exact Or.inl rfl | exact Or.inr rfl))) (fun _ _ _ _ _ => pts_nil) (fun _ _ _ _ _ => (pe_c D_law_oneS (hr.mono (by decide)) hq (pa_cons (pv 0) (pa_cons (pv 1) pa_nil)))))))))), ?_⟩
    simp only [tSeq, tAsg, gName, tVar, tC, tOp, tUn, tNil, tCons, tCall, tCB, tBM, tBM0, tSl, tNoPart, tPart, tRet, tRetN, tIf, tIfS, tB, tTest, tDrop, tNext, tTup, tLst, tAnd, tOr, tNot, tNotV, tYes, tIsN, tNotN, rI, rI0, rU, rEq, rNe, rPop, rAppend, rCat, rSetL, rIxL, rIxS, rSlL, tRevL, tFor_eq, tWhile_eq, tLc_eq, iList, iTup, iRng1, iRng2, iStr, iZip, gTup, gCons, gNil, gSub, L2.start, Lay.cx_K, CDiv, CDivN, CPow, List.map_cons, List.map_nil, List.length_cons, List.length_nil, List.replicate_succ, List.replicate_zero, List.cons_append, List.nil_append, List.append_nil, List.set_cons_zero, List.set_cons_succ, List.getElem?_cons_zero, List.getElem?_cons_succ, Option.some.injEq, exists_eq_left', V.int.injEq, V.str.injEq, V.ref.injEq, V.bl.injEq, List.cons.injEq, and_true, true_and, exists_and_left, exists_eq_left, exists_eq, and_assoc, Nat.reduceAdd, Nat.reduceSub, Nat.zero_add, exists_and_right, exists_const, L2.wipe, if_true, if_false, tBits, rLenK, rCopyK, rTupleK, tAndV, tOrV, tNotV, tChain, tMatch, tAsg2, tRevT, rIsiX, rIsX, rNeI, rNum, tPar, tM0, tM1, rEqE, rNeE, Bool.not_true, Bool.not_false, Bool.false_eq_true, N_law_word]
    refine ⟨p, l, n, 8, rfl, hF, by omega, by decide, by decide, fun m H1 m0 m1 f1 k1 => ⟨m, rfl, line _, fun u hu => ?_⟩⟩
    refine ⟨p, l, u, n + 1, _, rfl, feedU f1 hu, by omega, upd_same, (fresh f1 hu).1, (fresh f1 hu).2, by simp, by simp, fun j y H2 hy f2 k2 => ?_⟩
    obtain ⟨len, rfl, l1, l8⟩ : ∃ len : Int, y = .int len ∧ 1 ≤ len ∧ len ≤ 8 := by
      have := List.mem_of_getElem? hy
      simp only [List.mem_cons, List.not_mem_nil, or_false] at this
      rcases this with rfl | rfl | rfl
      · exact ⟨_, rfl, by decide, by decide⟩
      · exact ⟨_, rfl, by decide, by decide⟩
      · exact ⟨_, rfl, by omega, by omega⟩
    have k12 := (keepU k1 hu).trans k2
    refine ⟨⟨_, rfl⟩, len, rfl, by omega, by omega, fun L hL => ?_⟩
    have nL := fresh f2 hL
    have HL := backN k12 f2 hL
    refine CLoop.range (fun i acc G => ∃ (ys : List Str) (ni : Nat), acc = ys.map V.str ∧ ys.length = i ∧ (∀ y ∈ ys, y.length = 1 ∧ ∀ c ∈ y.cps.toList, c < 128) ∧ ni ≤ n + 2 + i ∧ Feed G p l ni ∧ Keep p l H G)
      ⟨[], n + 2, rfl, rfl, (fun y hy => by cases hy), by omega, feedU f2 hL, keepU k12 hL⟩ upd_same ?_ ?_
    · rintro i acc G hi ⟨ys, ni, rfl, ly, hys, hni, fG, kG⟩ hGL N hN
      simp only [tSeq, tAsg, gName, tVar, tC, tOp, tUn, tNil, tCons, tCall, tCB, tBM, tBM0, tSl, tNoPart, tPart, tRet, tRetN, tIf, tIfS, tB, tTest, tDrop, tNext, tTup, tLst, tAnd, tOr, tNot, tNotV, tYes, tIsN, tNotN, rI, rI0, rU, rEq, rNe, rPop, rAppend, rCat, rSetL, rIxL, rIxS, rSlL, tRevL, tFor_eq, tWhile_eq, tLc_eq, iList, iTup, iRng1, iRng2, iStr, iZip, gTup, gCons, gNil, gSub, L2.start, Lay.cx_K, CDiv, CDivN, CPow, List.map_cons, List.map_nil, List.length_cons, List.length_nil, List.replicate_succ, List.replicate_zero, List.cons_append, List.nil_append, List.append_nil, List.set_cons_zero, List.set_cons_succ, List.getElem?_cons_zero, List.getElem?_cons_succ, Option.some.injEq, exists_eq_left', V.int.injEq, V.str.injEq, V.ref.injEq, V.bl.injEq, List.cons.injEq, and_true, true_and, exists_and_left, exists_eq_left, exists_eq, and_assoc, Nat.reduceAdd, Nat.reduceSub, Nat.zero_add, exists_and_right, exists_const, L2.wipe, if_true, if_false, tBits, rLenK, rCopyK, rTupleK, tAndV, tOrV, tNotV, tChain, tMatch, tAsg2, tRevT, rIsiX, rIsX, rNeI, rNum, tPar, tM0, tM1, rEqE, rNeE, Bool.not_true, Bool.not_false, Bool.false_eq_true]
      refine ⟨p, l, ni, _, rfl, fG, by omega, by decide +kernel, by decide +kernel, fun j c G2 hc f3 k3 => ?_⟩
      have hL2 := k3 _ _ hGL nL.1 nL.2
      have c128 : c < 128 := by
        have hall : ∀ c ∈ (Str.ofString "abcdefghijklmnopqrstuvwxyz").cps.toList, c < 128 := by decide +kernel
        exact hall c (List.mem_of_getElem? hc)
      refine ⟨_, hL2, ltline _ (by rw [List.length_map]; omega), hN _ _ ⟨ys ++ [⟨#[c]⟩], ni + 1, by simp, by simp [ly], ?_, by omega, f3.upd nL.1 nL.2, keepW (kG.trans k3) HL⟩ upd_same⟩
      intro y hy
      rcases List.mem_append.mp hy with h | h
      · exact hys y h
      · cases List.mem_singleton.mp h
        refine ⟨rfl, ?_⟩
        intro c' hc'
        have : c' = c := by simpa using hc'
        omega
    · rintro acc G ⟨ys, ni, rfl, ly, hys, hni, fG, kG⟩ hGL
      have jl := join_len ys (fun y hy => (hys y hy).1)
      have hs : (ys.map fun x => x.length).sum ≤ ys.length := by
        clear jl ly hGL hni fG kG
        induction ys with
        | nil => exact Nat.le_refl _
        | cons y r ih =>
          rw [List.map_cons, List.sum_cons, List.length_cons, (hys y (List.mem_cons_self ..)).1]
          have := ih (fun z hz => hys z (List.mem_cons_of_mem _ hz))
          omega
      have e0 : (Str.ofString "").length = 0 := by decide +kernel
      refine ⟨L, rfl, ys, .inl (.inl (.inl hGL)), ?_, ?_⟩
      · rw [e0]
        omega
      · refine k _ G ni (by omega) ?_ (by omega) fG kG
        unfold Txt.join
        rw [StrLaws.glued_eq_join]
        exact join_signs ys fun y hy => (hys y hy).2
end
end C02
namespace C02
open PySem PySem.Spec PyProof.Rows L2 Lay M02
/-! ### what is written out in the law -/
theorem dx_app {K : PySem.W.Frag} {F : Hp} {ws : List V} {es : List PyData} (b : DxAll K F ws es) : ∀ {vs : List V} {ds : List PyData}, DxAll K F vs ds → DxAll K F (vs ++ ws) (ds ++ es)
  | _, _, .nil => b
  | _, _, .cons h r => .cons h (dx_app b r)
theorem _root_.Lay.DxAll.app {K : PySem.W.Frag} {F : Hp} {vs ws : List V} {ds es : List PyData} (a : DxAll K F vs ds) (b : DxAll K F ws es) : DxAll K F (vs ++ ws) (ds ++ es) := dx_app b a
section
variable {K : PySem.W.Frag} {S : List Addr} {H0 : Hp} {σ : L2.St}
def Lit (K : PySem.W.Frag) (S : List Addr) (H0 : Hp) (σ : L2.St) (te : TE) (d : PyData) : Prop :=
  ∀ (H : Hp) (Q : VK), Same H0 H → (∀ v H', Same H H' → Dx K (off S H') v d → Q v H') → te σ H Q
def LitA (K : PySem.W.Frag) (S : List Addr) (H0 : Hp) (σ : L2.St) (ta : TA) (ds : List PyData) : Prop :=
  ∀ (H : Hp) (Q : List V → Hp → Prop), Same H0 H → (∀ vs H', Same H H' → DxAll K (off S H') vs ds → Q vs H') → ta σ H Q
theorem Lit.pure {te : TE} {v : V} {d : PyData} (h : ∀ H Q, Q v H → te σ H Q) (hd : ∀ G, Dx K G v d) : Lit K S H0 σ te d := fun H Q s q => h H Q (q v H (Same.refl H) (hd _))
theorem Lit.non : Lit K S H0 σ (tC .non) .none := .pure (fun _ _ q => q) fun _ => .non
theorem Lit.bl {b : Bool} : Lit K S H0 σ (tC (.bl b)) (.bool b) := .pure (fun _ _ q => q) fun _ => .bl b
theorem Lit.int {i : Int} : Lit K S H0 σ (tC (.int i)) (.int i) := .pure (fun _ _ q => q) fun _ => .int i
theorem Lit.str {x : Str} : Lit K S H0 σ (tC (.str x)) (.str x) := .pure (fun _ _ q => q) fun _ => .str x
theorem Lit.neg {i : Int} : Lit K S H0 σ (tUn (rU fun i => .int (-i)) (tC (.int i))) (.int (-i)) := .pure (fun _ _ q => ⟨i, rfl, q⟩) fun _ => .int _
theorem Lit.var {i : Nat} {v : V} {d : PyData} (h : σ[i]? = some (some v)) (hd : Dx K (off S H0) v d) : Lit K S H0 σ (tVar i) d := fun H Q s q => ⟨v, h, q v H (Same.refl H) (hd.sub (off_same s))⟩
theorem LitA.nil : LitA K S H0 σ tNil [] := fun H Q s q => q [] H (Same.refl H) .nil
theorem LitA.cons {te : TE} {ta : TA} {d : PyData} {ds : List PyData} (a : Lit K S H0 σ te d) (b : LitA K S H0 σ ta ds) : LitA K S H0 σ (tCons te ta) (d :: ds) := fun H Q s q =>
  a H _ s fun v H1 s1 hd => b H1 _ (s.trans s1) fun vs H2 s2 hds => q (v :: vs) H2 (s1.trans s2) (.cons (hd.sub (off_same s2)) hds)
theorem nS {H : Hp} (hS : ∀ a ∈ S, H0 a ≠ none) (s : Same H0 H) {q : Addr} (hq : H q = none) : q ∉ S := fun z => hS q z (s.free hq)
theorem Lit.tup {ta : TA} {ds : List PyData} (hS : ∀ a ∈ S, H0 a ≠ none) (h : LitA K S H0 σ ta ds) (hl : ds.length ≤ 1000 := by decide) : Lit K S H0 σ (tTup ta) (.tuple ds) := fun H Q s q =>
  h H _ s fun vs H1 s1 hds => ⟨line _ (by rw [hds.len]; omega), fun p hp => q _ _ (sameU s1 hp) (.tup (.inl (.inl (off_of (nS hS (s.trans s1) hp) upd_same))) (hds.sub (off_same (same_upd hp))))⟩
theorem Lit.lst {ta : TA} {ds : List PyData} (hS : ∀ a ∈ S, H0 a ≠ none) (h : LitA K S H0 σ ta ds) (hl : ds.length ≤ 1000 := by decide) : Lit K S H0 σ (tLst ta) (.list ds) := fun H Q s q =>
  h H _ s fun vs H1 s1 hds => ⟨line _ (by rw [hds.len]; omega), fun p hp => q _ _ (sameU s1 hp) (.lst (.inl (.inl (off_of (nS hS (s.trans s1) hp) upd_same))) (hds.sub (off_same (same_upd hp))))⟩
theorem Lit.dict0 (hS : ∀ a ∈ S, H0 a ≠ none) : Lit K S H0 σ tDNewK (.dict []) := fun H Q s q p hp =>
  q _ _ (same_upd hp) (.dct (es := []) (off_of (nS hS s hp) upd_same) rfl .nil)
theorem Lit.dict1 (hS : ∀ a ∈ S, H0 a ≠ none) : Lit K S H0 σ (tDisp [(tC (.int 0), tC (.int 1))]) (.dict [(.int 0, .int 1)]) := fun H Q s q p hp =>
  ⟨upd_same, [(.inl 0, .int 1)], rfl, by decide, q _ _ (sameU' (same_upd hp) hp) (by
    rw [upd_upd]
    exact .dct (es := [(.inl 0, .int 1)]) (off_of (nS hS s hp) upd_same) rfl (.cons (.int 1) .nil))⟩
/-- a list is written out: where it stands -/
theorem LitA.list {ta : TA} {ds : List PyData} {H : Hp} {Q : VK} (hS : ∀ a ∈ S, H0 a ≠ none) (h : LitA K S H0 σ ta ds) (s : Same H0 H) (hl : ds.length ≤ 1000)
    (q : ∀ p xs H', Same H H' → H p = none → H' p = some (.lst xs) → DxAll K (off S H') xs ds → Q (.ref p) H') : tLst ta σ H Q :=
  h H _ s fun vs H1 s1 hds => ⟨line _ (by rw [hds.len]; omega), fun p hp => q p vs _ (sameU s1 hp) (s1.free hp) upd_same (hds.sub (off_same (same_upd hp)))⟩
/-- xs + [..] -/
theorem LitA.cat {ta : TA} {ds es : List PyData} {H : Hp} {Q : VK} {i : Nat} {a : Addr} {xs : List V} (hS : ∀ a ∈ S, H0 a ≠ none) (h : LitA K S H0 σ ta ds) (s : Same H0 H) (hl : ds.length ≤ 1000)
    (hi : σ[i]? = some (some (.ref a))) (ha : H a = some (.lst xs)) (hx : DxAll K (off S H) xs es) (lx : es.length ≤ 1000)
    (q : ∀ p ys H', Same H H' → H p = none → H' p = some (.lst ys) → DxAll K (off S H') ys (es ++ ds) → Q (.ref p) H') : tOp rCat (tVar i) (tLst ta) σ H Q := by
  refine ⟨_, hi, LitA.list hS h s hl fun p ys H' s' hp g d => ⟨a, p, xs, ys, rfl, rfl, s' _ _ ha, g, line _ (by rw [hx.len, d.len]; omega), fun r hr => ?_⟩⟩
  refine q r _ _ (sameU s' hr) (s'.free hr) upd_same ?_
  exact ((hx.sub (off_same s')).sub (off_same (same_upd hr))).app (d.sub (off_same (same_upd hr)))
/-- xs + [..] * 3 -/
theorem LitA.cat3 {ta : TA} {ds es : List PyData} {H : Hp} {Q : VK} {i : Nat} {a : Addr} {xs : List V} (hS : ∀ a ∈ S, H0 a ≠ none) (h : LitA K S H0 σ ta ds) (s : Same H0 H) (hl : ds.length ≤ 100)
    (hi : σ[i]? = some (some (.ref a))) (ha : H a = some (.lst xs)) (hx : DxAll K (off S H) xs es) (lx : es.length ≤ 1000)
    (q : ∀ p ys H', Same H H' → H p = none → H' p = some (.lst ys) → DxAll K (off S H') ys (es ++ (ds ++ (ds ++ ds))) → Q (.ref p) H') : tOp rCat (tVar i) (tOp rRep (tLst ta) (tC (.int 3))) σ H Q := by
  refine ⟨_, hi, LitA.list hS h s (by omega) fun p ys H' s' hp g d => ⟨p, 3, ys, rfl, rfl, g, by decide, by decide, line _ (by rw [d.len]; show ds.length * 3 ≤ _; omega), fun r hr => ?_⟩⟩
  have e : (List.replicate (3 : Int).toNat ys).flatten = ys ++ (ys ++ ys) := by
    show (List.replicate 3 ys).flatten = _
    simp [List.replicate_succ]
  rw [e]
  have s2 := sameU (o := .lst (ys ++ (ys ++ ys))) s' hr
  have d2 := d.sub (off_same (S := S) (same_upd (o := .lst (ys ++ (ys ++ ys))) hr))
  refine ⟨a, r, xs, _, rfl, rfl, s2 _ _ ha, upd_same, line _ ?_, fun t ht => ?_⟩
  · have := d.len
    have := hx.len
    simp only [List.length_append]
    omega
  · refine q t _ _ (sameU s2 ht) (s2.free ht) upd_same ?_
    have d3 := d2.sub (off_same (same_upd (o := .lst (xs ++ (ys ++ (ys ++ ys)))) ht))
    exact ((hx.sub (off_same s2)).sub (off_same (same_upd ht))).app (d3.app (d3.app d3))
end
mutual
theorem fine_mono {A B : Nat} (h : A ≤ B) : ∀ d : PyData, fine A d = true → fine B d = true
  | .none, _ => rfl
  | .bool _, _ => rfl
  | .int i, z => by
    have : i.natAbs ≤ A := of_decide_eq_true (by simpa only [fine] using z)
    simp only [fine]
    exact decide_eq_true (by omega)
  | .str x, z => by simpa only [fine] using z
  | .list ds, z => by
    have := fineAll_mono h ds (by simpa only [fine] using z)
    simpa only [fine] using this
  | .tuple ds, z => by
    have := fineAll_mono h ds (by simpa only [fine] using z)
    simpa only [fine] using this
  | .dict kvs, z => by simpa only [fine] using z
theorem fineAll_mono {A B : Nat} (h : A ≤ B) : ∀ ds : List PyData, fineAll A ds = true → fineAll B ds = true
  | [], _ => rfl
  | d :: r, z => by
    have z' : fine A d = true ∧ fineAll A r = true := by simpa [fineAll] using z
    simp only [fineAll, fine_mono h d z'.1, fineAll_mono h r z'.2, Bool.and_self]
end
theorem Gd.mono {A N n B M m : Nat} {d : PyData} (g : Gd A N n d) (h1 : A ≤ B) (h2 : N ≤ M) (h3 : n ≤ m) : Gd B M m d := ⟨fine_mono h1 d g.fi, Nat.le_trans g.wt h2, Nat.le_trans g.dp h3⟩
def gd0 (d : PyData) : Bool := fine (10 ^ 39) d && decide (wt d ≤ 400) && decide (d.depth ≤ 2)
theorem gd0_ok {d : PyData} (h : gd0 d = true) : Gd (10 ^ 39) 400 2 d := by
  unfold gd0 at h
  rw [Bool.and_eq_true, Bool.and_eq_true, decide_eq_true_eq, decide_eq_true_eq] at h
  exact ⟨h.1.1, h.1.2, h.2⟩
theorem gd0_all {ds : List PyData} (h : ds.all gd0 = true) : ∀ d ∈ ds, Gd (10 ^ 39) 400 2 d := fun d hd => gd0_ok (List.all_eq_true.mp h d hd)
theorem int_signs (i : Int) : ∀ c ∈ (Str.ofString (toString i)).cps.toList, c < 128 := by
  intro c hc
  rcases Nat.lt_or_ge c 128 with h | h
  · exact h
  · exact absurd hc (int_text_free' c ⟨by omega, by omega⟩ i)
theorem upper_signs (x : Str) (h : ∀ c ∈ x.cps.toList, c < 128) : (Txt.upper x).length = x.length ∧ ∀ c ∈ (Txt.upper x).cps.toList, c < 128 := by
  rw [upper_ascii h]
  refine ⟨?_, ?_⟩
  · show (x.cps.map up1).size = x.cps.size
    exact Array.size_map ..
  · intro c hc
    rw [Array.toList_map] at hc
    obtain ⟨d, hd, rfl⟩ := List.mem_map.mp hc
    have := h d hd
    unfold up1
    split <;> omega
theorem cut_signs (x : Str) (lo hi : Option Int) (h : ∀ c ∈ x.cps.toList, c < 128) : (cutS x lo hi).length ≤ x.length ∧ ∀ c ∈ (cutS x lo hi).cps.toList, c < 128 := by
  rw [C8.cutS_slice]
  refine ⟨Txt.slice_le x lo hi, ?_⟩
  unfold Txt.slice
  split
  · exact h
  · intro c hc
    have hc' : c ∈ (Builtin.Str.strSliceIndices lo hi 1 x.length).filterMap (x.cps[·]?) := by simpa using hc
    obtain ⟨k, _, e⟩ := List.mem_filterMap.mp hc'
    obtain ⟨hk, e2⟩ := Array.getElem?_eq_some_iff.mp e
    refine h c ?_
    rw [← e2]
    exact Array.mem_toList_iff.mpr (Array.getElem_mem hk)
theorem app_signs (x y : Str) (hx : ∀ c ∈ x.cps.toList, c < 128) (hy : ∀ c ∈ y.cps.toList, c < 128) : ∀ c ∈ (x ++ y).cps.toList, c < 128 := by
  intro c hc
  have : (x ++ y).cps.toList = x.cps.toList ++ y.cps.toList := Array.toList_append
  rw [this] at hc
  rcases List.mem_append.mp hc with h | h
  · exact hx c h
  · exact hy c h
theorem str_gd {B N m : Nat} {x : Str} (h : ∀ c ∈ x.cps.toList, c < 128) (hl : 10 * x.length + 4 ≤ N) : Gd B N m (.str x) :=
  ⟨by simp only [fine]; exact List.all_eq_true.mpr fun c hc => decide_eq_true (h c hc), by simpa only [wt] using hl, by simp [PyData.depth]⟩
theorem str_in {B : Nat} {x : Str} (h : fine B (.str x) = true) : ∀ c ∈ x.cps.toList, c < 128 := by
  have : x.cps.toList.all (fun c => decide (c < 128)) = true := by simpa only [fine] using h
  exact fun c hc => of_decide_eq_true (List.all_eq_true.mp this c hc)
theorem hS2 {H : Hp} {p l : Addr} {n : Nat} (hF : Feed H p l n) : ∀ a ∈ [p, l], H a ≠ none := by
  intro a ha
  rcases List.mem_cons.mp ha with z | ha
  · rw [z]
    exact (there hF).1
  · rw [List.mem_singleton.mp ha]
    exact (there hF).2
theorem thereK {S : List Addr} {H H' : Hp} {p l : Addr} {n : Nat} (k : Keep p l H H') (f : Feed H' p l n) (h : ∀ a ∈ S, H a ≠ none) : ∀ a ∈ S, H' a ≠ none := fun a ha e => h a ha (backN k f e)
def strC (x : Str) : List PyData := [.str (x ++ "a"), .str (cutS x none (some (-1))), .str (Txt.upper x), .str (x ++ " "), .tuple [.str x], .str (x ++ x)]
def intC (i : Int) : List PyData := [.int (i + 1), .int (i - 1), .int (0 - i), .bool (decide (V.int i = V.int 1)), .str (toString i)]
theorem seqSet {te : TE} {i : Nat} {u : TS} {D : Ends} {τ : L2.St} {H : Hp} (h : te τ H fun x H1 => u D (τ.set i (some x)) H1) : tSeq (tAsg te (gName i)) u D τ H := h
def oddA : List PyData := [.none, .bool true, .bool false, .int 0, .int (-1), .int 1, .str "", .str "a", .str "A", .str "a1", .str "a b", .str "abcdefghi", .str "0", .tuple [], .tuple [.int 0], .tuple [.int 0, .int 0], .tuple [.tuple [.int 0, .int 0], .int 1]]
def oddB (d : PyData) : List PyData := [.list [], .dict [], .list [.int 0, .int 0], .list [d], .tuple [d], .dict [(.int 0, .int 1)], .int (10 ^ (39 : Int).toNat), .int (-(10 ^ (39 : Int).toNat)), .str "z\n", .str "{", .str "`", .tuple [.tuple [], .tuple []]]
section
variable {P : Program} {w : World} {K : PySem.W.Frag} {mg : Str → Option Value} {base : Heap}
def sp_odd (K : PySem.W.Frag) : Sp := fun vs H Q _ => ∃ (S : List Addr) (p l : Addr) (n : Nat) (v : V) (d : PyData) (B N m : Nat), vs = [.ref p, v] ∧ p ∈ S ∧ l ∈ S ∧ (∀ a ∈ S, H a ≠ none) ∧ Feed H p l n ∧ n + 1 < 10 ^ 9 ∧ Dx K (off S H) v d ∧ Gd B N m d ∧
  10 ^ 39 ≤ B ∧ B ≤ 10 ^ 41 ∧ N ≤ 100000 ∧
  ∀ (x : V) (e : PyData) H', Dx K (off S H') x e → Gd (B + 1) (2 * N + 500) (max 2 (m + 1)) e → Feed H' p l (n + 1) → Keep p l H H' → Q x H'
theorem ok_law_odd {f : Addr} {fd : FuncData} (F : Fun K "_law_odd" "_law_odd" s_law_odd f fd) (z_isinstance : mg "isinstance" = none) (z_str : mg "str" = none)
    (D_law_whole : Has P w K mg base 1 "_law_whole" ["_law_it"] (sp_is K M02.isInt))
    (D_law_one : Has P w K mg base 2 "_law_one" ["_law_feed_here", "_law_some"] sp_one) :
    FnG P w K mg base CX0 3 f fd ["_law_feed_here", "_law_it"] (sp_odd K) := by
  refine okG F sc_law_odd (fun vs H Q E h => ?_) (fun cdv A outer s H vs Q E hr hq h => ?_)
  · obtain ⟨S, p, l, n, v, d, B, N, m, rfl, _⟩ := h
    rfl
  · obtain ⟨S, p, l, n, v, d, B, N, m, rfl, pS, lS, hS, hF, hn, hd, hg, b0, b1, n1, k⟩ := h
    have nd := sc_law_odd.nd
    refine ⟨_, (pss_cons (ps_set (i := 2) nd rfl (Or.inl rfl) (pe_lst (pa_cons pe_non (pa_cons pe_bl (pa_cons pe_bl (pa_cons pe_int (pa_cons (pe_un un_neg pe_int) (pa_cons pe_int (pa_cons pe_str (pa_cons pe_str (pa_cons pe_str (pa_cons pe_str (pa_cons pe_str (pa_cons pe_str (pa_cons pe_str (pa_cons (pe_tup pa_nil) (pa_cons (pe_tup (pa_cons pe_int pa_nil)) (pa_cons (pe_tup (pa_cons pe_int (pa_cons pe_int pa_nil))) (pa_cons (pe_tup (pa_cons (pe_tup (pa_cons pe_int (pa_cons pe_int pa_nil))) (pa_cons pe_int pa_nil))) pa_nil)))))))))))))))))))
      (pss_cons (ps_set (i := 2) nd rfl (Or.inl rfl) (pe_op op_cat (pv 2) (pe_lst (pa_cons (pe_lst pa_nil) (pa_cons pe_dnewK (pa_cons (pe_lst (pa_cons pe_int (pa_cons pe_int pa_nil))) (pa_cons (pe_lst (pa_cons (pv 1) pa_nil)) (pa_cons (pe_tup (pa_cons (pv 1) pa_nil)) (pa_cons (pe_disp (pps_cons pe_int pe_int pps_nil) (by rfl) (by rfl) (fun z => by cases z) (by decide)) (pa_cons (pe_op op_pow pe_int pe_int) (pa_cons (pe_un un_neg (pe_op op_pow pe_int pe_int)) (pa_cons pe_str (pa_cons pe_str (pa_cons pe_str (pa_cons (pe_tup (pa_cons (pe_tup pa_nil) (pa_cons (pe_tup pa_nil) pa_nil))) pa_nil)))))))))))))))
      (pss_cons (ps_if (pt_val (pe_c D_law_whole (hr.mono (by decide)) hq (pa_cons (pv 1) pa_nil))) (pss_one (ps_set (i := 2) nd rfl (Or.inl rfl) (pe_op op_cat (pv 2) (pe_op op_rep (pe_lst (pa_cons (pe_op op_add (pv 1) pe_int) (pa_cons (pe_op op_sub (pv 1) pe_int) (pa_cons (pe_op op_sub pe_int (pv 1)) (pa_cons (pe_cmpR op_eq (pv 1) pe_int (nomark _)) (pa_cons (pe_callTy call_str_int (by rfl) z_str (by decide +kernel) (pa_cons (pv 1) pa_nil)) pa_nil)))))) pe_int)))) pss_nil)
      (pss_cons (ps_if (pt_val (pe_callB (isiXK K) (by rfl) z_isinstance (by decide +kernel) (pa_cons (pv 1) (pa_cons (pe_bltn (v := .ty "str") (u := .type "str") (by rfl) z_str (by decide +kernel) rfl) pa_nil)))) (pss_one (ps_set (i := 2) nd rfl (Or.inl rfl) (pe_op op_cat (pv 2) (pe_op op_rep (pe_lst (pa_cons (pe_op op_add_str (pv 1) pe_str) (pa_cons (pe_slice sl_str (pv 1) po_none (po_some (pe_un un_neg pe_int))) (pa_cons (pe_upper (pv 1)) (pa_cons (pe_op op_add_str (pv 1) pe_str) (pa_cons (pe_tup (pa_cons (pv 1) pa_nil)) (pa_cons (pe_op op_repS (pv 1) pe_int) pa_nil))))))) pe_int)))) pss_nil)
      (pss_one (ps_ret (pe_c D_law_one (hr.mono (by decide)) hq (pa_cons (pv 0) (pa_cons (pv 2) pa_nil))))))))), ?_⟩
    have e0 : L2.start N_law_odd [V.ref p, v] = [some (V.ref p), some v, none] := rfl
    rw [e0]
    clear e0
    refine seqSet ?_
    refine LitA.list (K := K) (S := S) (H0 := H) (ds := oddA) hS ?_ (Same.refl H) (by decide) ?_
    · refine .cons .non (.cons .bl (.cons .bl (.cons .int (.cons .neg (.cons .int (.cons .str (.cons .str (.cons .str (.cons .str (.cons .str (.cons .str (.cons .str (.cons (.tup hS .nil) (.cons (.tup hS (.cons .int .nil)) (.cons (.tup hS (.cons .int (.cons .int .nil))) (.cons (.tup hS (.cons (.tup hS (.cons .int (.cons .int .nil))) (.cons .int .nil))) .nil))))))))))))))))
    · intro q1 xs1 H1 s1 hq1 g1 d1
      refine seqSet ?_
      refine LitA.cat (K := K) (S := S) (H0 := H) (ds := oddB d) hS ?_ s1 (by simp [oddB]) rfl g1 d1 (by decide) ?_
      · refine .cons (.lst hS .nil) (.cons (.dict0 hS) (.cons (.lst hS (.cons .int (.cons .int .nil))) (.cons (.lst hS (.cons (.var rfl hd) .nil) (by simp)) (.cons (.tup hS (.cons (.var rfl hd) .nil) (by simp)) (.cons (.dict1 hS) (.cons ?_ (.cons ?_ (.cons .str (.cons .str (.cons .str (.cons (.tup hS (.cons (.tup hS .nil) (.cons (.tup hS .nil) .nil))) .nil)))))))))))
        · exact .pure (fun _ _ q => ⟨10, 39, rfl, rfl, ⟨by decide, by decide, by decide⟩, q⟩) fun _ => .int _
        · exact .pure (fun _ _ q => ⟨10, 39, rfl, rfl, ⟨by decide, by decide, by decide⟩, _, rfl, q⟩) fun _ => .int _
      · intro q2 xs2 H2 s2 hq2 g2 d2
        have dok : Gd (B + 1) (2 * N + 500) (max 2 (m + 1)) d := hg.mono (by omega) (by omega) (by omega)
        have ok2 : ∀ e ∈ oddA ++ oddB d, Gd (B + 1) (2 * N + 500) (max 2 (m + 1)) e := by
          intro e he
          rcases List.mem_append.mp he with h | h
          · exact (gd0_all (ds := oddA) (by decide +kernel) e h).mono (by omega) (by omega) (by omega)
          · simp only [oddB, List.mem_cons, List.not_mem_nil, or_false] at h
            have c : ∀ e, gd0 e = true → Gd (B + 1) (2 * N + 500) (max 2 (m + 1)) e := fun e z => (gd0_ok z).mono (by omega) (by omega) (by omega)
            have hb : ∀ e, e = .list [d] ∨ e = .tuple [d] → Gd (B + 1) (2 * N + 500) (max 2 (m + 1)) e := by
              rintro e (rfl | rfl)
              · refine ⟨by simp [fine, fineAll, dok.fi], ?_, ?_⟩
                · have := hg.wt
                  simp only [wt, wtAll]
                  omega
                · have := hg.dp
                  simp only [PyData.depth, PyData.depthAll]
                  omega
              · refine ⟨by simp [fine, fineAll, dok.fi], ?_, ?_⟩
                · have := hg.wt
                  simp only [wt, wtAll]
                  omega
                · have := hg.dp
                  simp only [PyData.depth, PyData.depthAll]
                  omega
            rcases h with rfl | rfl | rfl | rfl | rfl | rfl | rfl | rfl | rfl | rfl | rfl | rfl
            · exact c _ (by decide +kernel)
            · exact c _ (by decide +kernel)
            · exact c _ (by decide +kernel)
            · exact hb _ (.inl rfl)
            · exact hb _ (.inr rfl)
            · exact c _ (by decide +kernel)
            · exact c _ (by decide +kernel)
            · exact c _ (by decide +kernel)
            · exact c _ (by decide +kernel)
            · exact c _ (by decide +kernel)
            · exact c _ (by decide +kernel)
            · exact c _ (by decide +kernel)
        have last : ∀ (es : List PyData) (a : Addr) (xs : List V) (G : Hp), Same H G → H a = none → G a = some (.lst xs) → DxAll K (off S G) xs es → (∀ e ∈ es, Gd (B + 1) (2 * N + 500) (max 2 (m + 1)) e) → 0 < es.length → es.length ≤ 500 →
            tRet (tCall sp_one [] E0 (tCons (tVar 0) (tCons (tVar 2) tNil))) { nx := fun _ G' => Q .non G', rt := Q } [some (V.ref p), some v, some (.ref a)] G := by
          intro es a xs G sG na ga da oe pos few
          have fG := hF.same sG
          have nla := fresh hF na
          have ll := da.len
          refine ⟨_, rfl, _, rfl, p, l, a, n, xs, rfl, fG, by omega, ga, nla.1, nla.2, by omega, by omega, fun i x H' hx f' k' => ?_⟩
          have hi : i < xs.length := (List.getElem?_eq_some_iff.mp hx).1
          have hei : es[i]? = some (es[i]'(by omega)) := List.getElem?_eq_getElem _
          refine k x _ H' ((da.get i x _ hx hei).sub (k'.off pS lS)) (oe _ (List.mem_of_getElem? hei)) f' ((Keep.of sG).trans k')
        have strP : ∀ (es : List PyData) (a : Addr) (xs : List V) (G : Hp), Same H G → H a = none → G a = some (.lst xs) → DxAll K (off S G) xs es → (∀ e ∈ es, Gd (B + 1) (2 * N + 500) (max 2 (m + 1)) e) → 0 < es.length → es.length ≤ 400 →
            tSeq (tIfS (tB (tCB (rIsiX K) (tCons (tVar 1) (tCons (tC (V.ty "str")) tNil))))
              (tAsg (tOp rCat (tVar 2) (tOp rRep (tLst (tCons (tOp (fun x y H Q => ∃ i j, x = V.str i ∧ y = V.str j ∧ i.length + j.length ≤ sizeLine ∧ Q (V.str (i ++ j)) H) (tVar 1) (tC (V.str (Str.ofString "a"))))
                (tCons (tSl rSlS (tVar 1) tNoPart (tPart (tUn (rU fun i => V.int (-i)) (tC (V.int 1)))))
                  (tCons (tM0 (fun x xs H Q => ∃ a, x = V.str a ∧ xs = [] ∧ a.length ≤ 5592405 ∧ Q (V.str (Txt.upper a)) H) (tVar 1))
                    (tCons (tOp (fun x y H Q => ∃ i j, x = V.str i ∧ y = V.str j ∧ i.length + j.length ≤ sizeLine ∧ Q (V.str (i ++ j)) H) (tVar 1) (tC (V.str (Str.ofString " "))))
                      (tCons (tTup (tCons (tVar 1) tNil)) (tCons (tOp rRepS (tVar 1) (tC (V.int 2))) tNil))))))) (tC (V.int 3)))) (gName 2)) tNext)
              (tRet (tCall sp_one [] E0 (tCons (tVar 0) (tCons (tVar 2) tNil)))) { nx := fun _ G' => Q .non G', rt := Q } [some (V.ref p), some v, some (.ref a)] G := by
          intro es a xs G sG na ga da oe pos few
          have hdG : Dx K G v d := (hd.sub (off_same sG)).sub (off_sub _ _)
          refine ⟨v, rfl, v, d, "str", _, rfl, hdG, kit_str d, _, rfl, ?_⟩
          rcases str_cases d with ⟨e, _⟩ | ⟨x, rfl⟩
          · rw [e]
            exact iteF (last es a xs G sG na ga da oe pos (by omega))
          · cases hd
            have hx := str_in hg.fi
            have hw := hg.wt
            simp only [wt] at hw
            have small : x.length ≤ 20000 := by omega
            have e1 : (Str.ofString "a").length = 1 := by decide +kernel
            have e2 : (Str.ofString " ").length = 1 := by decide +kernel
            have u1 := upper_signs x hx
            have c1 := cut_signs x none (some (-1)) hx
            refine iteT ?_
            refine LitA.cat3 (K := K) (S := S) (H0 := H) (ds := strC x) hS ?_ sG (by simp [strC]) rfl ga da (by omega) ?_
            · refine .cons (.pure (fun _ _ q => ⟨_, rfl, x, _, rfl, rfl, line _ (by omega), q⟩) fun _ => .str _)
                (.cons (.pure (fun _ _ q => ⟨_, rfl, 1, rfl, -1, rfl, x, rfl, line _ (by omega), q⟩) fun _ => .str _)
                (.cons (.pure (fun _ _ q => ⟨_, rfl, ⟨x, rfl⟩, x, rfl, rfl, by omega, q⟩) fun _ => .str _)
                (.cons (.pure (fun _ _ q => ⟨_, rfl, x, _, rfl, rfl, line _ (by omega), q⟩) fun _ => .str _)
                (.cons (.tup hS (.cons (.var rfl (.str x)) .nil) (by simp))
                (.cons (.pure (fun _ _ q => ⟨_, rfl, x, rfl, rfl, by omega, q⟩) fun _ => .str _) .nil)))))
            · intro q3 ys G3 s3 hq3 g3 d3
              refine last _ q3 ys G3 (sG.trans s3) (sG.free hq3) g3 d3 ?_ (by simp [strC]) (by simp [strC]; omega)
              have okS : ∀ e ∈ strC x, Gd (B + 1) (2 * N + 500) (max 2 (m + 1)) e := by
                intro e he
                simp only [strC, List.mem_cons, List.not_mem_nil, or_false] at he
                rcases he with rfl | rfl | rfl | rfl | rfl | rfl
                · exact str_gd (app_signs _ _ hx (by decide +kernel)) (by rw [Str.length_append, e1]; omega)
                · exact str_gd c1.2 (by have := c1.1; omega)
                · exact str_gd u1.2 (by rw [u1.1]; omega)
                · exact str_gd (app_signs _ _ hx (by decide +kernel)) (by rw [Str.length_append, e2]; omega)
                · refine ⟨?_, ?_, ?_⟩
                  · simp only [fine, fineAll, Bool.and_true]
                    exact dok.fi
                  · simp only [wt, wtAll]
                    omega
                  · simp only [PyData.depth, PyData.depthAll]
                    omega
                · exact str_gd (app_signs _ _ hx hx) (by rw [Str.length_append]; omega)
              intro e he
              rcases List.mem_append.mp he with h | h
              · exact oe e h
              · rcases List.mem_append.mp h with h | h
                · exact okS e h
                · rcases List.mem_append.mp h with h | h
                  · exact okS e h
                  · exact okS e h
        have s12 := s1.trans s2
        have hd2 : Dx K H2 v d := (hd.sub (off_same s12)).sub (off_sub _ _)
        refine ⟨v, rfl, v, d, rfl, hd2, by have := hg.wt; omega, fun H3 s3 => ⟨_, rfl, ?_⟩⟩
        have s13 := s12.trans s3
        have d3 := d2.sub (off_same (S := S) s3)
        have n2 : H q2 = none := s1.free hq2
        rcases int_cases d with ⟨e, _⟩ | ⟨i, rfl⟩
        · rw [e]
          exact iteF (strP _ q2 xs2 H3 s13 n2 (s3 _ _ g2) d3 ok2 (by simp [oddA]) (by simp [oddA, oddB]))
        · cases hd
          have hi : i.natAbs ≤ B := of_decide_eq_true (by simpa only [fine] using hg.fi)
          refine iteT ?_
          refine LitA.cat3 (K := K) (S := S) (H0 := H) (ds := intC i) hS ?_ s13 (by simp [intC]) rfl (s3 _ _ g2) d3 (by simp [oddA, oddB]) ?_
          · refine .cons (.pure (fun _ _ q => ⟨_, rfl, i, 1, rfl, rfl, q⟩) fun _ => .int _)
              (.cons (.pure (fun _ _ q => ⟨_, rfl, i, 1, rfl, rfl, q⟩) fun _ => .int _)
              (.cons (.pure (fun _ _ q => ⟨_, rfl, 0, i, rfl, rfl, q⟩) fun _ => .int _)
              (.cons (.pure (fun _ _ q => ⟨_, rfl, rfl, q⟩) fun _ => .bl _)
              (.cons (.pure (fun _ _ q => ⟨_, rfl, i, rfl, ?_, q⟩) fun _ => .str _) .nil))))
            rcases Nat.eq_zero_or_pos i.natAbs with z | z
            · rw [z]; decide
            · rw [Nat.log2_lt (by omega)]
              refine Nat.lt_of_le_of_lt (Nat.le_trans hi b1) ?_
              decide +kernel
          · intro q3 ys G3 s4 hq3 g3 d4
            refine strP _ q3 ys G3 (s13.trans s4) (s13.free hq3) g3 d4 ?_ (by simp [oddA]) (by simp [oddA, oddB, intC])
            have okI : ∀ e ∈ intC i, Gd (B + 1) (2 * N + 500) (max 2 (m + 1)) e := by
              intro e he
              simp only [intC, List.mem_cons, List.not_mem_nil, or_false] at he
              have gi : ∀ j : Int, j.natAbs ≤ B + 1 → Gd (B + 1) (2 * N + 500) (max 2 (m + 1)) (.int j) := fun j hj =>
                ⟨by simp only [fine]; exact decide_eq_true hj, by simp only [wt]; omega, by simp [PyData.depth]⟩
              rcases he with rfl | rfl | rfl | rfl | rfl
              · exact gi _ (by omega)
              · exact gi _ (by omega)
              · exact gi _ (by omega)
              · exact ⟨rfl, by simp only [wt]; omega, by simp [PyData.depth]⟩
              · refine str_gd (int_signs i) ?_
                have := int_text_length_le10 (a := i) (k := 42) (by decide) (Nat.lt_of_le_of_lt (Nat.le_trans hi b1) (by decide))
                rw [PySem.ofString_length]
                omega
            intro e he
            rcases List.mem_append.mp he with h | h
            · exact ok2 e h
            · rcases List.mem_append.mp h with h | h
              · exact okI e h
              · rcases List.mem_append.mp h with h | h
                · exact okI e h
                · exact okI e h
end
end C02
namespace C02
open PySem PySem.Spec PyProof.Rows L2 Lay M02
section
variable {K : PySem.W.Frag} {S : List Addr} {H0 H : Hp} {σ : L2.St} {Q : VK}
theorem DxAll.takeN {F : Hp} : ∀ (n : Nat) {vs : List V} {ds : List PyData}, DxAll K F vs ds → DxAll K F (vs.take n) (ds.take n)
  | 0, _, _, _ => .nil
  | n + 1, _, _, .nil => .nil
  | n + 1, _, _, .cons h r => .cons h (DxAll.takeN n r)
theorem DxAll.dropN {F : Hp} : ∀ (n : Nat) {vs : List V} {ds : List PyData}, DxAll K F vs ds → DxAll K F (vs.drop n) (ds.drop n)
  | 0, _, _, h => h
  | n + 1, _, _, .nil => .nil
  | n + 1, _, _, .cons h r => DxAll.dropN n r
theorem DxAll.rev {F : Hp} {vs : List V} {ds : List PyData} (h : DxAll K F vs ds) : DxAll K F vs.reverse ds.reverse := by
  cases h with
  | nil => exact .nil
  | cons a r =>
    rw [List.reverse_cons, List.reverse_cons]
    exact (DxAll.rev r).app (.cons a .nil)
termination_by vs.length
decreasing_by simp
def cutD (ds : List PyData) (lo hi : Option Int) : List PyData := (ds.drop (HT.sIx ds.length 0 lo)).take (HT.sIx ds.length ds.length hi - HT.sIx ds.length 0 lo)
theorem slA_dx {v : V} {ds : List PyData} {lo hi : Option Int} (hS : ∀ a ∈ S, H a ≠ none) (hd : Dx K (off S H) v (.tuple ds))
    (q : ∀ r H', Same H H' → Dx K (off S H') r (.tuple (cutD ds lo hi)) → Q r H') : rSlA K v lo hi H Q := by
  obtain ⟨a, xs, rfl, hs, ha⟩ := hd.seq
  have hl := ha.len
  have e : cutD ds lo hi = (ds.drop (HT.sIx xs.length 0 lo)).take (HT.sIx xs.length xs.length hi - HT.sIx xs.length 0 lo) := by
    unfold cutD
    rw [hl]
  rw [e] at q
  refine ⟨a, xs, rfl, sameT (off_sub _ _) hs, fun w => ?_, fun _ p hp => ?_⟩
  · refine q _ H (Same.refl H) ?_
    rw [w.1, w.2, Nat.sub_zero, List.drop_zero, hl, List.take_length]
    exact hd
  · refine q _ _ (same_upd hp) (.tup (.inl (.inl (off_of (fun z => hS p z hp) upd_same))) ?_)
    exact (DxAll.takeN _ (DxAll.dropN _ ha)).sub (off_same (same_upd hp))
theorem catA_dx {v u : V} {ds es : List PyData} (hS : ∀ a ∈ S, H a ≠ none) (hd : Dx K (off S H) v (.tuple ds)) (he : Dx K (off S H) u (.tuple es)) (hl : ds.length + es.length ≤ 1000000)
    (q : ∀ r H', Same H H' → Dx K (off S H') r (.tuple (ds ++ es)) → Q r H') : rCatA K v u H Q := by
  obtain ⟨a, xs, rfl, hs, ha⟩ := hd.seq
  obtain ⟨b, ys, rfl, ht, hb⟩ := he.seq
  have l1 := ha.len
  have l2 := hb.len
  refine ⟨a, b, xs, ys, rfl, rfl, sameT (off_sub _ _) hs, sameT (off_sub _ _) ht, line _ (by omega), fun z => ?_, fun _ z => ?_, fun _ _ p hp => ?_⟩
  · have : ds = [] := List.length_eq_zero_iff.mp (by rw [← l1, z]; rfl)
    rw [this] at q
    exact q _ H (Same.refl H) he
  · have : es = [] := List.length_eq_zero_iff.mp (by rw [← l2, z]; rfl)
    rw [this, List.append_nil] at q
    exact q _ H (Same.refl H) hd
  · refine q _ _ (same_upd hp) (.tup (.inl (.inl (off_of (fun z => hS p z hp) upd_same))) ?_)
    exact (ha.sub (off_same (same_upd hp))).app (hb.sub (off_same (same_upd hp)))
theorem thereS (hS : ∀ a ∈ S, H0 a ≠ none) (s : Same H0 H) : ∀ a ∈ S, H a ≠ none := by
  intro a ha z
  exact hS a ha (s.free z)
theorem Lit.sl {te : TE} {tl th : TO} {ds : List PyData} {lo hi : Option Int} (hS : ∀ a ∈ S, H0 a ≠ none) (h : Lit K S H0 σ te (.tuple ds)) (hl : ∀ H Q, Q lo H → tl σ H Q) (hh : ∀ H Q, Q hi H → th σ H Q) :
    Lit K S H0 σ (tSl (rSlA K) te tl th) (.tuple (cutD ds lo hi)) := fun H Q s q =>
  h H _ s fun v H1 s1 hd => hl _ _ (hh _ _ (slA_dx (thereS hS (s.trans s1)) hd fun r H' s' hr => q r H' (s1.trans s') hr))
theorem Lit.cat {ta tb : TE} {ds es : List PyData} (hS : ∀ a ∈ S, H0 a ≠ none) (h : Lit K S H0 σ ta (.tuple ds)) (h2 : Lit K S H0 σ tb (.tuple es)) (hl : ds.length + es.length ≤ 1000000) :
    Lit K S H0 σ (tOp (rCatA K) ta tb) (.tuple (ds ++ es)) := fun H Q s q =>
  h H _ s fun v H1 s1 hd => h2 H1 _ (s.trans s1) fun u H2 s2 he => catA_dx (thereS hS ((s.trans s1).trans s2)) (hd.sub (off_same s2)) he hl fun r H' s' hr => q r H' ((s1.trans s2).trans s') hr
theorem Lit.rev {ta : TE} {ds : List PyData} (hS : ∀ a ∈ S, H0 a ≠ none) (h : Lit K S H0 σ ta (.tuple ds)) : Lit K S H0 σ (tRevT K ta) (.tuple ds.reverse) := fun H Q s q =>
  h H _ s fun v H1 s1 hd => by
    obtain ⟨a, xs, rfl, hs, ha⟩ := hd.seq
    refine ⟨a, xs, rfl, sameT (off_sub _ _) hs, fun p hp => q _ _ (sameU s1 hp) (.tup (.inl (.inl (off_of (nS hS (s.trans s1) hp) upd_same))) ?_)⟩
    exact (DxAll.rev ha).sub (off_same (same_upd hp))
theorem Lit.copy {ta : TE} {ds : List PyData} (hS : ∀ a ∈ S, H0 a ≠ none) (h : Lit K S H0 σ ta (.tuple ds)) : Lit K S H0 σ (tCB (rCopyK K) (tCons ta tNil)) (.list ds) := fun H Q s q =>
  h H _ s fun v H1 s1 hd => by
    obtain ⟨a, xs, rfl, hs, ha⟩ := hd.seq
    refine ⟨a, xs, rfl, .inr (sameT (off_sub _ _) hs), fun p hp => q _ _ (sameU s1 hp) (.lst (.inl (.inl (off_of (nS hS (s.trans s1) hp) upd_same))) (ha.sub (off_same (same_upd hp))))⟩
end
theorem nextOf {D : Ends} {τ : L2.St} {H : Hp} (h : D.nx τ H) : tNext D τ H := h
theorem depthAll_le {m : Nat} : ∀ ds : List PyData, PyData.depthAll ds ≤ m ↔ ∀ d ∈ ds, d.depth ≤ m
  | [] => by simp [PyData.depthAll]
  | d :: r => by
    simp only [PyData.depthAll, List.mem_cons, forall_eq_or_imp]
    rw [← depthAll_le r]
    omega
/-- parts of ds in any order -/
theorem Gd.parts {B N m : Nat} {ds es : List PyData} (h : Gd B N (m + 1) (.tuple ds)) (hm : ∀ e ∈ es, e ∈ ds) {M : Nat} (hw : wtAll es + 4 ≤ M) : Gd B M (m + 1) (.tuple es) ∧ Gd B M (m + 1) (.list es) := by
  have h1 : fineAll B ds = true := by simpa only [fine] using h.fi
  have h2 : PyData.depthAll ds ≤ m := by
    have : PyData.depthAll ds + 1 ≤ m + 1 := h.dp
    omega
  have f : fineAll B es = true := (fineAll_iff B es).mpr fun e he => (fineAll_iff B ds).mp h1 e (hm e he)
  have g : PyData.depthAll es ≤ m := (depthAll_le es).mpr fun e he => (depthAll_le ds).mp h2 e (hm e he)
  exact ⟨⟨by simpa only [fine] using f, by show 4 + wtAll es ≤ M; omega, by show PyData.depthAll es + 1 ≤ m + 1; omega⟩, ⟨by simpa only [fine] using f, by show 4 + wtAll es ≤ M; omega, by show PyData.depthAll es + 1 ≤ m + 1; omega⟩⟩
theorem wt_split (ds : List PyData) (n : Nat) : wtAll (ds.take n) + wtAll (ds.drop n) = wtAll ds := by
  rw [← wtAll_app, List.take_append_drop]
theorem wt_rev (ds : List PyData) : wtAll ds.reverse = wtAll ds := by
  induction ds with
  | nil => rfl
  | cons d r ih =>
    rw [List.reverse_cons, wtAll_app, ih]
    simp only [wtAll]
    omega
section
variable {P : Program} {w : World} {K : PySem.W.Frag} {mg : Str → Option Value} {base : Heap}
def sp_bent (K : PySem.W.Frag) (m : Nat) : Sp := fun vs H Q _ => ∃ (S : List Addr) (p l : Addr) (n : Nat) (v : V) (d : PyData) (B N : Nat), vs = [.ref p, v] ∧ p ∈ S ∧ l ∈ S ∧ (∀ a ∈ S, H a ≠ none) ∧ Feed H p l n ∧ n + 3 * (m + 1) < 10 ^ 9 ∧ Dx K (off S H) v d ∧ Gd B N m d ∧
  10 ^ 39 ≤ B ∧ B ≤ 10 ^ 41 ∧ N ≤ 100000 ∧
  ∀ (x : V) (e : PyData) H' n', Dx K (off S H') x e → Gd (B + 1) (2 * N + 500) (m + 2) e → n' ≤ n + 3 * (m + 1) → Feed H' p l n' → Keep p l H H' → Q x H'
def sp_less (K : PySem.W.Frag) (m : Nat) : Sp := fun vs H Q E => ∃ m', m = m' + 1 ∧ sp_bent K m' vs H Q E
theorem ok_law_bent (m : Nat) {f : Addr} {fd : FuncData} (F : Fun K "_law_bent" "_law_bent" s_law_bent f fd) (z_isinstance : mg "isinstance" = none) (z_tuple : mg "tuple" = none) (z_len : mg "len" = none) (z_list : mg "list" = none)
    (D_law_take : Has P w K mg base 1 "_law_take" ["_law_feed_here", "_law_many"] sp_take)
    (D_law_one : Has P w K mg base 2 "_law_one" ["_law_feed_here", "_law_some"] sp_one)
    (D_law_odd : Has P w K mg base 3 "_law_odd" ["_law_feed_here", "_law_it"] (sp_odd K))
    (D_law_bent : Has P w K mg base (3 + m) "_law_bent" ["_law_feed_here", "_law_it"] (sp_less K m)) :
    FnG P w K mg base CX0 (4 + m) f fd ["_law_feed_here", "_law_it"] (sp_bent K m) := by
  have e4 : 4 + m = (3 + m) + 1 := by omega
  rw [e4]
  refine okG F sc_law_bent (fun vs H Q E h => ?_) (fun cdv A outer s H vs Q E hr hq h => ?_)
  · obtain ⟨S, p, l, n, v, d, B, N, rfl, _⟩ := h
    rfl
  · obtain ⟨S, p, l, n, v, d, B, N, rfl, pS, lS, hS, hF, hn, hd, hg, b0, b1, n1, k⟩ := h
    have nd := sc_law_bent.nd
    have hr2 : Room 3 (A.deeper (envOfC "_law_bent" (defScope s_law_bent) s.heap.objs.size f cdv)) := hr.mono (by omega)
    refine ⟨_, (pss_cons (ps_set (i := 2) nd rfl (Or.inl rfl) (pe_c D_law_take (hr2.mono (by decide)) hq (pa_cons (pv 0) (pa_cons pe_int pa_nil))))
      (pss_cons (ps_if (PW.pt (pw_or (pt_not (pt_val (pe_callB (isiXK K) (by rfl) z_isinstance (by decide +kernel) (pa_cons (pv 1) (pa_cons (pe_bltn (v := .ty "tuple") (u := .type "tuple") (by rfl) z_tuple (by decide +kernel) rfl) pa_nil))))) (pw_or (pt_cmpR (eqEK K hr.units) (pv 1) (pe_tup pa_nil) (nomark _)) (pw_or1 (pt_cmpR op_eq (pv 2) pe_int (nomark _)))))) (pss_one (ps_ret (pe_c D_law_odd (hr2.mono (by decide)) hq (pa_cons (pv 0) (pa_cons (pv 1) pa_nil))))) pss_nil)
      (pss_cons (ps_set (i := 3) nd rfl (Or.inl rfl) (pe_c D_law_take (hr2.mono (by decide)) hq (pa_cons (pv 0) (pa_cons (pe_callB (lenK K) (by rfl) z_len (by decide +kernel) (pa_cons (pv 1) pa_nil)) pa_nil))))
      (pss_cons (ps_if (pt_cmpR op_lt (pv 2) pe_int (nomark _)) (pss_one (ps_ret (pe_op (catTK K) (pe_op (catTK K) (pe_slice (slTK K) (pv 1) po_none (po_some (pv 3))) (pe_tup (pa_cons (pe_c D_law_bent hr hq (pa_cons (pv 0) (pa_cons (pe_ix (ixTK K) (pv 1) (pv 3) (fun _ _ => rfl)) pa_nil))) pa_nil))) (pe_slice (slTK K) (pv 1) (po_some (pe_op op_add (pv 3) pe_int)) po_none)))) pss_nil)
      (pss_cons (ps_set (i := 4) nd rfl (Or.inl rfl) (pe_lst (pa_cons (pe_op (catTK K) (pe_slice (slTK K) (pv 1) po_none (po_some (pv 3))) (pe_slice (slTK K) (pv 1) (po_some (pe_op op_add (pv 3) pe_int)) po_none)) (pa_cons (pe_op (catTK K) (pe_slice (slTK K) (pv 1) po_none (po_some (pe_op op_add (pv 3) pe_int))) (pe_slice (slTK K) (pv 1) (po_some (pv 3)) po_none)) (pa_cons (pe_callTy (copyK K) (by rfl) z_list (by decide +kernel) (pa_cons (pv 1) pa_nil)) (pa_cons (pe_op (catTK K) (pv 1) (pe_slice (slTK K) (pv 1) po_none (po_some pe_int))) pa_nil))))))
      (pss_one (ps_ret (pe_c D_law_one (hr2.mono (by decide)) hq (pa_cons (pv 0) (pa_cons (pe_op op_cat (pv 4) (pe_lst (pa_cons (pe_op (catTK K) (pe_op (catTK K) (pe_slice (slTK K) (pv 1) po_none (po_some (pv 3))) (revTK K (pe_revT (pe_slice (slTK K) (pv 1) (po_some (pv 3)) (po_some (pe_op op_add (pv 3) pe_int)))))) (pe_slice (slTK K) (pv 1) (po_some (pe_op op_add (pv 3) pe_int)) po_none)) pa_nil))) pa_nil)))))))))), ?_⟩
    have e0 : L2.start N_law_bent [V.ref p, v] = [some (V.ref p), some v, none, none, none] := rfl
    rw [e0]
    clear e0
    refine seqSet ?_
    refine ⟨_, rfl, p, l, n, 9, rfl, hF, by omega, by decide, by decide, fun way H1 w0 w9 f1 k1 => ?_⟩
    have hd1 : Dx K (off S H1) v d := hd.sub (k1.off pS lS)
    have odd : ∀ G, Same H1 G → tRet (tCall (sp_odd K) [] E0 (tCons (tVar 0) (tCons (tVar 1) tNil))) { nx := fun _ G' => Q .non G', rt := Q } [some (V.ref p), some v, some (V.int way), none, none] G :=
      fun G sG => ⟨_, rfl, _, rfl, S, p, l, n + 1, v, d, B, N, m, rfl, pS, lS, thereS (thereK k1 f1 hS) sG, f1.same sG, by omega, hd1.sub (off_same sG), hg, b0, b1, n1, fun x e H' dx ge f' k' =>
        k x e H' (n + 2) dx (ge.mono (Nat.le_refl _) (Nat.le_refl _) (by omega)) (by omega) f' ((k1.trans (.of sG)).trans k')⟩
    have wd := hg.wt
    refine ⟨v, rfl, v, d, "tuple", _, rfl, hd1.sub (off_sub _ _), kit_tup d, _, rfl, ?_⟩
    rcases tup_cases d with ⟨e, _⟩ | ⟨ds, rfl⟩
    · rw [e]
      exact iteT (iteT (odd H1 (Same.refl _)))
    · obtain ⟨t, vs, rfl, hs, hal⟩ := hd1.seq
      have hl := hal.len
      have hsH : SqT K H1 t vs := sameT (off_sub _ _) hs
      refine iteF ⟨_, rfl, line 0, fun q hq => ⟨t, q, vs, rfl, rfl, .inl ⟨sameT (same_upd hq) hsH, .inl (.inl upd_same)⟩, _, rfl, ?_⟩⟩
      have sG := same_upd (o := .tup []) hq
      generalize upd H1 q (.tup []) = G at sG
      cases em : vs.isEmpty with
      | true => exact iteT (iteT (odd G sG))
      | false =>
        refine iteF ⟨_, rfl, rfl, _, rfl, ?_⟩
        refine ite2 (fun c => odd G sG) (fun c => ?_)
        have lpos : 0 < ds.length := by
          rw [← hl]
          cases vs with
          | nil => cases em
          | cons _ _ => simp
        have wl : 2 * ds.length ≤ wtAll ds := wtAll_len ds
        have wt4 : 4 + wtAll ds ≤ N := wd
        obtain ⟨m', rfl⟩ : ∃ m', m = m' + 1 := by
          have : PyData.depthAll ds + 1 ≤ m := hg.dp
          exact ⟨m - 1, by omega⟩
        refine nextOf ?_
        refine seqSet (te := tCall sp_take [] E0 (tCons (tVar 0) (tCons (tCB (rLenK K) (tCons (tVar 1) tNil)) tNil))) (i := 3) (H := G) ?_
        refine ⟨_, rfl, _, rfl, t, vs, rfl, .inr (sameT sG hsH), p, l, n + 1, _, rfl, f1.same sG, by omega, by omega, by omega, fun at' H2 a0 a1 f2 k2 => ?_⟩
        obtain ⟨j, rfl⟩ : ∃ j : Nat, at' = j := ⟨at'.toNat, by omega⟩
        have hj : j < ds.length := by omega
        have k12 := (k1.trans (.of sG)).trans k2
        have hd2 : Dx K (off S H2) (.ref t) (.tuple ds) := (hd1.sub (off_same sG)).sub (k2.off pS lS)
        have hal2 : DxAll K (off S H2) vs ds := (hal.sub (off_same sG)).sub (k2.off pS lS)
        have hs2 : SqT K (off S H2) t vs := sameT (k2.off pS lS) (sameT (off_same sG) hs)
        have hSp := thereK k12 f2 hS
        have hdj : ds[j]? = some ds[j] := List.getElem?_eq_getElem hj
        have hvj : ∃ vj, vs[j]? = some vj := ⟨_, List.getElem?_eq_getElem (by omega)⟩
        obtain ⟨vj, hvj⟩ := hvj
        have s0 := Same.refl H2
        have sp1 := wt_split ds j
        have sp2 := wt_split ds (j + 1)
        have djs : ds.drop j = ds[j] :: ds.drop (j + 1) := List.drop_eq_getElem_cons hj
        have wj : wtAll (ds.drop j) = wt ds[j] + 2 + wtAll (ds.drop (j + 1)) := by rw [djs]; rfl
        have mt : ∀ i, ∀ e ∈ ds.take i, e ∈ ds := fun i e he => List.mem_of_mem_take he
        have md : ∀ i, ∀ e ∈ ds.drop i, e ∈ ds := fun i e he => List.mem_of_mem_drop he
        have ln : ds.length ≤ 50000 := by omega
        have cT : cutD ds none (some (j : Int)) = ds.take j := by
          unfold cutD
          rw [HT.sIx_none, HT.sIx_nat, List.drop_zero, Nat.sub_zero, Nat.min_eq_left (by omega)]
        have cT1 : cutD ds none (some ((j : Int) + 1)) = ds.take (j + 1) := by
          unfold cutD
          rw [HT.sIx_none, show ((j : Int) + 1) = ((j + 1 : Nat) : Int) from rfl, HT.sIx_nat, List.drop_zero, Nat.sub_zero, Nat.min_eq_left (by omega)]
        have cD : cutD ds (some (j : Int)) none = ds.drop j := by
          unfold cutD
          rw [HT.sIx_none, HT.sIx_nat, Nat.min_eq_left (by omega), List.take_of_length_le (by rw [List.length_drop]; omega)]
        have cD1 : cutD ds (some ((j : Int) + 1)) none = ds.drop (j + 1) := by
          unfold cutD
          rw [HT.sIx_none, show ((j : Int) + 1) = ((j + 1 : Nat) : Int) from rfl, HT.sIx_nat, Nat.min_eq_left (by omega), List.take_of_length_le (by rw [List.length_drop]; omega)]
        refine ⟨_, rfl, way, 5, rfl, rfl, _, rfl, ite2 (fun c5 => ?_) (fun c5 => ?_)⟩
        · have dx0 : Dx K (off S H2) vj ds[j] := hal2.get j vj _ hvj hdj
          refine ⟨_, rfl, _, rfl, _, rfl, slA_dx (lo := none) (hi := some (j : Int)) hSp hd2 fun r1 G1 t1 hr1 => ?_⟩
          rw [cT] at hr1
          have gx : Gd B (wt ds[j]) m' ds[j] := by
            have h1 : fineAll B ds = true := by simpa only [fine] using hg.fi
            have h2 : PyData.depthAll ds + 1 ≤ m' + 1 := hg.dp
            exact ⟨(fineAll_iff B ds).mp h1 _ (List.getElem_mem hj), Nat.le_refl _, (depthAll_le ds).mp (by omega) _ (List.getElem_mem hj)⟩
          have wdj := wtAll_mem ds _ (List.getElem_mem hj)
          have fG1 := f2.same t1
          refine ⟨_, rfl, _, rfl, _, rfl, _, _, _, _, rfl, rfl, sameT ((off_sub _ _ : Same (off S H2) H2).trans t1) hs2, atI_nat hvj, m', rfl, S, p, l, n + 2, vj, ds[j], B, wt ds[j], rfl, pS, lS, thereS hSp t1, fG1, by omega, dx0.sub (off_same t1), gx, b0, b1, by omega, fun x' e' G2 n' hx' gx' hn' f3 k3 => ?_⟩
          have hSG2 := thereK k3 f3 (thereS hSp t1)
          have hrx := hr1.sub (k3.off (S := S) pS lS)
          refine ⟨line 1, fun q2 hq2 => ?_⟩
          have f4 := feedU (o := .tup [x']) f3 hq2
          have dq2 : Dx K (off S (upd G2 q2 (.tup [x']))) (.ref q2) (.tuple [e']) := .tup (.inl (.inl (off_of (nS hSG2 (Same.refl _) hq2) upd_same))) (.cons (hx'.sub (off_same (same_upd hq2))) .nil)
          refine catA_dx (thereS hSG2 (same_upd hq2)) (hrx.sub (off_same (same_upd hq2))) dq2 (by rw [List.length_take]; simp only [List.length_cons, List.length_nil]; omega) fun r2 G3 t3 hr2 => ?_
          have f5 := f4.same t3
          have hdG3 : Dx K (off S G3) (.ref t) (.tuple ds) := (((hd2.sub (off_same t1)).sub (k3.off pS lS)).sub (off_same (same_upd hq2))).sub (off_same t3)
          refine Lit.sl (K := K) (S := S) (H0 := G3) (te := tVar 1) (tl := tPart (tOp (rI0 fun i j => V.int (i + j)) (tVar 3) (tC (V.int 1)))) (th := tNoPart) (ds := ds) (lo := some ((j : Int) + 1)) (hi := none) (thereS (thereS hSG2 (same_upd hq2)) t3) (.var rfl hdG3)
            (fun H Q z => ⟨_, rfl, j, 1, rfl, rfl, _, rfl, z⟩) (fun H Q z => z) G3 _ (Same.refl _) fun r3 G4 t4 hr3 => ?_
          rw [cD1] at hr3
          have f6 := f5.same t4
          refine catA_dx (thereS (thereS (thereS hSG2 (same_upd hq2)) t3) t4) (hr2.sub (off_same t4)) hr3 (by simp only [List.length_append, List.length_take, List.length_drop, List.length_cons, List.length_nil]; omega) fun r4 G5 t5 hr4 => ?_
          have kk := (((((k12.trans (.of t1)).trans k3).trans (.of (same_upd (o := .tup [x']) hq2))).trans (.of t3)).trans (.of t4)).trans (.of t5)
          have h1 : fineAll B ds = true := by simpa only [fine] using hg.fi
          have h2 : PyData.depthAll ds + 1 ≤ m' + 1 := hg.dp
          refine k _ _ G5 n' hr4 ⟨?_, ?_, ?_⟩ (by omega) (f6.same t5) kk
          · have a1 : fineAll (B + 1) (ds.take j) = true := fineAll_mono (Nat.le_succ B) _ ((fineAll_iff B _).mpr fun e he => (fineAll_iff B ds).mp h1 e (mt j e he))
            have a2 : fineAll (B + 1) (ds.drop (j + 1)) = true := fineAll_mono (Nat.le_succ B) _ ((fineAll_iff B _).mpr fun e he => (fineAll_iff B ds).mp h1 e (md (j + 1) e he))
            have a3 : fineAll (B + 1) [e'] = true := by simp [fineAll, gx'.fi]
            simp only [fine]
            rw [fineAll_app, fineAll_app, a1, a2, a3]
            rfl
          · have := gx'.wt
            simp only [wt]
            rw [wtAll_app, wtAll_app]
            have e1 : wtAll [e'] = wt e' + 2 := by simp [wtAll]
            rw [e1]
            omega
          · have := gx'.dp
            have dd := (depthAll_le (m := m') ds).mp (by omega)
            show PyData.depthAll _ + 1 ≤ m' + 1 + 2
            have : PyData.depthAll (ds.take j ++ [e'] ++ ds.drop (j + 1)) ≤ m' + 2 := by
              refine (depthAll_le _).mpr fun e he => ?_
              rcases List.mem_append.mp he with he | he
              · rcases List.mem_append.mp he with he | he
                · have := dd e (mt j e he)
                  omega
                · cases List.mem_singleton.mp he
                  exact this
              · have := dd e (md (j + 1) e he)
                omega
            omega
        · refine nextOf ?_
          refine seqSet (te := tLst (tCons (tOp (rCatA K) (tSl (rSlA K) (tVar 1) tNoPart (tPart (tVar 3))) (tSl (rSlA K) (tVar 1) (tPart (tOp (rI0 fun i j => V.int (i + j)) (tVar 3) (tC (V.int 1)))) tNoPart))
            (tCons (tOp (rCatA K) (tSl (rSlA K) (tVar 1) tNoPart (tPart (tOp (rI0 fun i j => V.int (i + j)) (tVar 3) (tC (V.int 1))))) (tSl (rSlA K) (tVar 1) (tPart (tVar 3)) tNoPart))
              (tCons (tCB (rCopyK K) (tCons (tVar 1) tNil)) (tCons (tOp (rCatA K) (tVar 1) (tSl (rSlA K) (tVar 1) tNoPart (tPart (tC (V.int 1))))) tNil))))) (i := 4) (H := H2) ?_
          have base0 : ∀ (σ' : L2.St), σ'[1]? = some (some (V.ref t)) → Lit K S H2 σ' (tVar 1) (.tuple ds) := fun σ' h => .var h hd2
          have inc : ∀ (σ' : L2.St) (q : Int), σ'[3]? = some (some (V.int j)) → ∀ H Q, Q (some ((j : Int) + q)) H → tPart (tOp (rI0 fun i j => V.int (i + j)) (tVar 3) (tC (V.int q))) σ' H Q := fun σ' q h H Q z => ⟨_, h, j, q, rfl, rfl, _, rfl, z⟩
          have at3 : ∀ (σ' : L2.St), σ'[3]? = some (some (V.int j)) → ∀ H Q, Q (some (j : Int)) H → tPart (tVar 3) σ' H Q := fun σ' h H Q z => ⟨_, h, _, rfl, z⟩
          refine LitA.list (K := K) (S := S) (H0 := H2) (ds := [.tuple (ds.take j ++ ds.drop (j + 1)), .tuple (ds.take (j + 1) ++ ds.drop j), .list ds, .tuple (ds ++ cutD ds none (some 1))]) hSp ?_ s0 (by simp) ?_
          · refine .cons ?_ (.cons ?_ (.cons ?_ (.cons ?_ .nil)))
            · rw [← cT, ← cD1]
              exact .cat hSp (.sl hSp (base0 _ rfl) (fun H Q z => z) (at3 _ rfl)) (.sl hSp (base0 _ rfl) (inc _ 1 rfl) (fun H Q z => z)) (by rw [cT, cD1, List.length_take, List.length_drop]; omega)
            · rw [← cT1, ← cD]
              exact .cat hSp (.sl hSp (base0 _ rfl) (fun H Q z => z) (inc _ 1 rfl)) (.sl hSp (base0 _ rfl) (at3 _ rfl) (fun H Q z => z)) (by rw [cT1, cD, List.length_take, List.length_drop]; omega)
            · exact .copy hSp (base0 _ rfl)
            · refine .cat hSp (base0 _ rfl) (.sl hSp (base0 _ rfl) (fun H Q z => z) (fun H Q z => ⟨1, rfl, z⟩)) ?_
              unfold cutD
              simp only [List.length_take, List.length_drop]
              omega
          · intro q3 xs3 H3 s3 hq3 g3 d3
            refine ⟨_, rfl, ?_⟩
            have d4 : Lit K S H2 _ (tOp (rCatA K) (tOp (rCatA K) (tSl (rSlA K) (tVar 1) tNoPart (tPart (tVar 3))) (tRevT K (tSl (rSlA K) (tVar 1) (tPart (tVar 3)) (tPart (tOp (rI0 fun i j => V.int (i + j)) (tVar 3) (tC (V.int 2)))))))
                (tSl (rSlA K) (tVar 1) (tPart (tOp (rI0 fun i j => V.int (i + j)) (tVar 3) (tC (V.int 2)))) tNoPart)) (.tuple (ds.take j ++ (cutD ds (some (j : Int)) (some ((j : Int) + 2))).reverse ++ cutD ds (some ((j : Int) + 2)) none)) :=
              (by
                rw [← cT]
                refine .cat hSp (.cat hSp (.sl hSp (base0 _ rfl) (fun H Q z => z) (at3 _ rfl)) (.rev hSp (.sl hSp (base0 _ rfl) (at3 _ rfl) (inc _ 2 rfl))) ?_) (.sl hSp (base0 _ rfl) (inc _ 2 rfl) (fun H Q z => z)) ?_
                · unfold cutD
                  simp only [List.length_take, List.length_drop, List.length_reverse]
                  omega
                · unfold cutD
                  simp only [List.length_take, List.length_drop, List.length_reverse, List.length_append]
                  omega : Lit K S H2 ((([some (V.ref p), some (V.ref t), none, none, none].set 2 (some (V.int way))).set 3 (some (V.int j))).set 4 (some (V.ref q3))) _ _)
            refine LitA.cat (K := K) (S := S) (H0 := H2) (ds := [.tuple (ds.take j ++ (cutD ds (some (j : Int)) (some ((j : Int) + 2))).reverse ++ cutD ds (some ((j : Int) + 2)) none)]) hSp (.cons d4 .nil) s3 (by simp) rfl g3 d3 (by simp) ?_
            intro q4 xs4 H4 s4 hq4 g4 d5
            have s34 := s3.trans s4
            have f4 := f2.same s34
            have nq := fresh (f2.same s3) hq4
            refine ⟨p, l, q4, n + 2, xs4, rfl, f4, by omega, g4, nq.1, nq.2, ?_, ?_, fun i x H' hx f' k' => ?_⟩
            · rw [d5.len]; simp
            · rw [d5.len]; simp
            · have hi : i < xs4.length := (List.getElem?_eq_some_iff.mp hx).1
              have l5 := d5.len
              have ok : ∀ e ∈ ([.tuple (ds.take j ++ ds.drop (j + 1)), .tuple (ds.take (j + 1) ++ ds.drop j), .list ds, .tuple (ds ++ cutD ds none (some 1))] : List PyData) ++ [.tuple (ds.take j ++ (cutD ds (some (j : Int)) (some ((j : Int) + 2))).reverse ++ cutD ds (some ((j : Int) + 2)) none)], Gd (B + 1) (2 * N + 500) (m' + 1 + 2) e := by
                have part : ∀ es : List PyData, (∀ e ∈ es, e ∈ ds) → wtAll es ≤ 2 * wtAll ds → Gd (B + 1) (2 * N + 500) (m' + 1 + 2) (.tuple es) ∧ Gd (B + 1) (2 * N + 500) (m' + 1 + 2) (.list es) := by
                  intro es hm hw
                  obtain ⟨g1, g2⟩ := hg.parts hm (M := 2 * N + 500) (by omega)
                  exact ⟨g1.mono (by omega) (Nat.le_refl _) (by omega), g2.mono (by omega) (Nat.le_refl _) (by omega)⟩
                have cm : ∀ lo hi, ∀ e ∈ cutD ds lo hi, e ∈ ds := fun lo hi e he => List.mem_of_mem_drop (List.mem_of_mem_take he)
                have cw : ∀ lo hi, wtAll (cutD ds lo hi) ≤ wtAll ds := by
                  intro lo hi
                  unfold cutD
                  have h1 := wt_split (ds.drop (HT.sIx ds.length 0 lo)) (HT.sIx ds.length ds.length hi - HT.sIx ds.length 0 lo)
                  have h2 := wt_split ds (HT.sIx ds.length 0 lo)
                  omega
                have cw2 : wtAll (cutD ds (some (j : Int)) (some ((j : Int) + 2))) + wtAll (ds.take j) ≤ wtAll ds := by
                  have e1 : HT.sIx ds.length 0 (some (j : Int)) = j := by rw [HT.sIx_nat, Nat.min_eq_left (by omega)]
                  unfold cutD
                  rw [e1]
                  have h1 := wt_split (ds.drop j) (HT.sIx ds.length ds.length (some ((j : Int) + 2)) - j)
                  omega
                intro e he
                simp only [List.cons_append, List.nil_append, List.mem_cons, List.not_mem_nil, or_false] at he
                rcases he with rfl | rfl | rfl | rfl | rfl
                · refine (part _ (fun e he => ?_) ?_).1
                  · rcases List.mem_append.mp he with h | h
                    · exact mt _ e h
                    · exact md _ e h
                  · rw [wtAll_app]; omega
                · refine (part _ (fun e he => ?_) ?_).1
                  · rcases List.mem_append.mp he with h | h
                    · exact mt _ e h
                    · exact md _ e h
                  · rw [wtAll_app]; omega
                · exact (part _ (fun e he => he) (by omega)).2
                · refine (part _ (fun e he => ?_) ?_).1
                  · rcases List.mem_append.mp he with h | h
                    · exact h
                    · exact cm _ _ e h
                  · rw [wtAll_app]
                    have := cw none (some 1)
                    omega
                · refine (part _ (fun e he => ?_) ?_).1
                  · rcases List.mem_append.mp he with h | h
                    · rcases List.mem_append.mp h with h | h
                      · exact mt _ e h
                      · exact cm _ _ e (List.mem_reverse.mp h)
                    · exact cm _ _ e h
                  · rw [wtAll_app, wtAll_app, wt_rev]
                    have := cw (some ((j : Int) + 2)) none
                    omega
              have hei := List.getElem?_eq_getElem (l := ([.tuple (ds.take j ++ ds.drop (j + 1)), .tuple (ds.take (j + 1) ++ ds.drop j), .list ds, .tuple (ds ++ cutD ds none (some 1))] : List PyData) ++ [.tuple (ds.take j ++ (cutD ds (some (j : Int)) (some ((j : Int) + 2))).reverse ++ cutD ds (some ((j : Int) + 2)) none)]) (i := i) (by omega)
              exact k x _ H' (n + 3) ((d5.get i x _ hx hei).sub (k'.off pS lS)) (ok _ (List.mem_of_getElem? hei)) (by omega) f' ((k12.trans (.of s34)).trans k')
end
end C02
namespace C02
open PySem PySem.Spec PyProof.Rows L2 Lay M02
section
variable {P : Program} {w : World} {K : PySem.W.Frag} {mg : Str → Option Value} {base : Heap}
def sp_great (K : PySem.W.Frag) : Sp := fun vs H Q _ => ∃ (p l : Addr) (n : Nat), vs = [.ref p] ∧ Feed H p l n ∧ n + 2 < 10 ^ 9 ∧
  ∀ (q : Addr) (ds : List PyData) H', Dx K (off [p, l] H') (.ref q) (.tuple ds) → ds.length = 3000 → Gd (10 ^ 39) 600000 3 (.tuple ds) → Feed H' p l (n + 2) → Keep p l H H' → Q (.ref q) H'
theorem ok_law_great {f : Addr} {fd : FuncData} (F : Fun K "_law_great" "_law_great" s_law_great f fd) (z_tuple : mg "tuple" = none) (z_range : mg "range" = none)
    (D_law_take : Has P w K mg base 1 "_law_take" ["_law_feed_here", "_law_many"] sp_take)
    (D_law_one : Has P w K mg base 2 "_law_one" ["_law_feed_here", "_law_some"] sp_one) :
    FnG P w K mg base CX0 3 f fd ["_law_feed_here"] (sp_great K) := by
  refine okG F sc_law_great (fun vs H Q E h => ?_) (fun cdv A outer s H vs Q E hr hq h => ?_)
  · obtain ⟨p, l, n, rfl, _⟩ := h
    rfl
  · obtain ⟨p, l, n, rfl, hF, hn, k⟩ := h
    have nd := sc_law_great.nd
    refine ⟨_, (pss_cons (ps_asg (pe_tup (pa_cons (pe_c D_law_one (hr.mono (by decide)) hq (pa_cons (pv 0) (pa_cons (pe_lst (pa_cons pe_int (pa_cons pe_int pa_nil))) pa_nil))) (pa_cons (pe_c D_law_take (hr.mono (by decide)) hq (pa_cons (pv 0) (pa_cons pe_int pa_nil))) pa_nil))) (gTupK K (pg_tup (n := 2) (by rfl) (pgs_cons (pg_name (i := 1) nd rfl (Or.inr rfl)) (pgs_cons (pg_name (i := 2) nd rfl (Or.inr rfl)) pgs_nil)))))
      (pss_one (ps_ret (pe_callTy (tupleK K) (by rfl) z_tuple (by decide +kernel) (pa_cons (pe_lc (own := [("_law_k", 3)]) (g := gName 3) rfl nd (pi_range1 (by rfl) z_range (pa_cons pe_int pa_nil)) (blkOk_by (own := [("_law_k", 3)]) (N := N_law_great) (sc := defScope s_law_great) (by decide +kernel)) (fun _ _ _ _ _ => (pg_name (i := 3) nd rfl (by first | exact Or.inl rfl | exact Or.inr rfl))) (fun _ _ _ _ _ => pts_nil) (fun _ _ _ _ _ => (pe_tup (pa_cons (pe_tup (pa_cons (pe_op op_add (pv 2) (pe_op op_fdiv (pv 3) (pv 1))) (pa_cons (pe_op op_mod (pv 3) (pv 1)) pa_nil))) (pa_cons (pv 3) pa_nil))))) pa_nil))))), ?_⟩
    simp only [tSeq, tAsg, gName, tVar, tC, tOp, tUn, tNil, tCons, tCall, tCB, tBM, tBM0, tSl, tNoPart, tPart, tRet, tRetN, tIf, tIfS, tB, tTest, tDrop, tNext, tTup, tLst, tAnd, tOr, tNot, tNotV, tYes, tIsN, tNotN, rI, rI0, rU, rEq, rNe, rPop, rAppend, rCat, rSetL, rIxL, rIxS, rSlL, tRevL, tFor_eq, tWhile_eq, tLc_eq, iList, iTup, iRng1, iRng2, iStr, iZip, gTup, gCons, gNil, gSub, L2.start, Lay.cx_K, CDiv, CDivN, CPow, List.map_cons, List.map_nil, List.length_cons, List.length_nil, List.replicate_succ, List.replicate_zero, List.cons_append, List.nil_append, List.append_nil, List.set_cons_zero, List.set_cons_succ, List.getElem?_cons_zero, List.getElem?_cons_succ, Option.some.injEq, exists_eq_left', V.int.injEq, V.str.injEq, V.ref.injEq, V.bl.injEq, List.cons.injEq, and_true, true_and, exists_and_left, exists_eq_left, exists_eq, and_assoc, Nat.reduceAdd, Nat.reduceSub, Nat.zero_add, exists_and_right, exists_const, L2.wipe, if_true, if_false, tBits, rLenK, rCopyK, rTupleK, tAndV, tOrV, tNotV, tChain, tMatch, tAsg2, tRevT, rIsiX, rIsX, rNeI, rNum, tPar, tM0, tM1, rEqE, rNeE, Bool.not_true, Bool.not_false, Bool.false_eq_true, N_law_great]
    refine ⟨line _, fun u hu => ⟨p, l, u, n, _, rfl, feedU hF hu, by omega, upd_same, (fresh hF hu).1, (fresh hF hu).2, by simp, by simp, fun j y H1 hy f1 k1 => ?_⟩⟩
    obtain ⟨wide, rfl, w1⟩ : ∃ wide : Int, y = .int wide ∧ (wide = 50 ∨ wide = 3000) := by
      have := List.mem_of_getElem? hy
      simp only [List.mem_cons, List.not_mem_nil, or_false] at this
      rcases this with rfl | rfl
      · exact ⟨_, rfl, .inl rfl⟩
      · exact ⟨_, rfl, .inr rfl⟩
    refine ⟨p, l, n + 1, 50, rfl, f1, by omega, by decide, by decide, fun bl H2 b0 b1 f2 k2 => ⟨line _, fun t ht => ⟨_, .inl (.inl upd_same), rfl, _, _, rfl, _, _, rfl, rfl, by decide, by decide, fun L hL => ?_⟩⟩⟩
    have f3 := feedU (o := .tup [.int wide, .int bl]) f2 ht
    have nL := fresh f3 hL
    have k12 := keepU (o := .tup [.int wide, .int bl]) (((Keep.of (same_upd (o := .lst [.int 50, .int 3000]) hu)).trans k1).trans k2) ht
    have HL := backN k12 f3 hL
    refine CLoop.range (fun i acc G => ∃ ds, DxAll K (off [p, l, L] G) acc ds ∧ ds.length = i ∧ fineAll (10 ^ 39) ds = true ∧ wtAll ds ≤ 174 * i ∧ PyData.depthAll ds ≤ 2 ∧ Feed G p l (n + 2) ∧ Keep p l H G)
      ⟨[], .nil, rfl, rfl, by simp [wtAll], by simp [PyData.depthAll], feedU f3 hL, keepU k12 hL⟩ upd_same ?_ ?_
    · rintro i acc G hi ⟨ds, hd, ld, fd, wd, dd, fG, kG⟩ hGL N hN
      have i3 : i < 3000 := hi
      have wpos : 0 < wide := by omega
      obtain ⟨qv, hqv⟩ : ∃ qv : Int, qv = (0 + (i : Int)) / wide := ⟨_, rfl⟩
      obtain ⟨rv, hrv⟩ : ∃ rv : Int, rv = (0 + (i : Int)) % wide := ⟨_, rfl⟩
      have q0 : 0 ≤ qv := by rw [hqv]; exact Int.ediv_nonneg (by omega) (by omega)
      have q1 : qv ≤ 3000 := by rw [hqv]; exact Int.le_trans (Int.ediv_le_self _ (by omega)) (by omega)
      have r0 : 0 ≤ rv := by rw [hrv]; exact Int.emod_nonneg _ (by omega)
      have r1 : rv < 3000 := by
        rw [hrv]
        have := Int.emod_lt_of_pos (0 + (i : Int)) wpos
        omega
      simp only [tSeq, tAsg, gName, tVar, tC, tOp, tUn, tNil, tCons, tCall, tCB, tBM, tBM0, tSl, tNoPart, tPart, tRet, tRetN, tIf, tIfS, tB, tTest, tDrop, tNext, tTup, tLst, tAnd, tOr, tNot, tNotV, tYes, tIsN, tNotN, rI, rI0, rU, rEq, rNe, rPop, rAppend, rCat, rSetL, rIxL, rIxS, rSlL, tRevL, tFor_eq, tWhile_eq, tLc_eq, iList, iTup, iRng1, iRng2, iStr, iZip, gTup, gCons, gNil, gSub, L2.start, Lay.cx_K, CDiv, CDivN, CPow, List.map_cons, List.map_nil, List.length_cons, List.length_nil, List.replicate_succ, List.replicate_zero, List.cons_append, List.nil_append, List.append_nil, List.set_cons_zero, List.set_cons_succ, List.getElem?_cons_zero, List.getElem?_cons_succ, Option.some.injEq, exists_eq_left', V.int.injEq, V.str.injEq, V.ref.injEq, V.bl.injEq, List.cons.injEq, and_true, true_and, exists_and_left, exists_eq_left, exists_eq, and_assoc, Nat.reduceAdd, Nat.reduceSub, Nat.zero_add, exists_and_right, exists_const, L2.wipe, if_true, if_false, tBits, rLenK, rCopyK, rTupleK, tAndV, tOrV, tNotV, tChain, tMatch, tAsg2, tRevT, rIsiX, rIsX, rNeI, rNum, tPar, tM0, tM1, rEqE, rNeE, Bool.not_true, Bool.not_false, Bool.false_eq_true]
      refine ⟨wpos, by omega, wpos, line _, fun x hx => ⟨line _, fun z hz => ?_⟩⟩
      rw [← hqv, ← hrv] at hz ⊢
      have kk : Same G (upd (upd G x (.tup [.int (bl + qv), .int rv])) z (.tup [.ref x, .int (0 + (i : Int))])) := sameU (same_upd hx) hz
      have xL : x ≠ L := fun e => by rw [e, hGL] at hx; cases hx
      have gL1 : upd G x (.tup [.int (bl + qv), .int rv]) L = some (.lst acc) := by rw [upd_ne (Ne.symm xL)]; exact hGL
      have zL : z ≠ L := fun e => by rw [e, gL1] at hz; cases hz
      have hL4 : upd (upd G x (.tup [.int (bl + qv), .int rv])) z (.tup [.ref x, .int (0 + (i : Int))]) L = some (.lst acc) := by rw [upd_ne (Ne.symm zL)]; exact gL1
      have fx := feedU (o := .tup [.int (bl + qv), .int rv]) fG hx
      have fz := feedU (o := .tup [.ref x, .int (0 + (i : Int))]) fx hz
      have sOff := off_same (S := [p, l, L]) kk
      have dx1 : Dx K (off [p, l, L] (upd G x (.tup [.int (bl + qv), .int rv]))) (.ref x) (.tuple [.int (bl + qv), .int rv]) := .tup (.inl (.inl (off_new3 fG hx hGL))) (.cons (.int _) (.cons (.int _) .nil))
      have dnew : Dx K (off [p, l, L] (upd (upd G x (.tup [.int (bl + qv), .int rv])) z (.tup [.ref x, .int (0 + (i : Int))]))) (.ref z) (.tuple [.tuple [.int (bl + qv), .int rv], .int (0 + (i : Int))]) :=
        .tup (.inl (.inl (off_new3 fx hz gL1))) (.cons (dx1.sub (off_same (same_upd hz))) (.cons (.int _) .nil))
      refine ⟨acc, hL4, ltline _ (by rw [hd.len, ld]; omega), hN _ _ ⟨ds ++ [.tuple [.tuple [.int (bl + qv), .int rv], .int (0 + (i : Int))]], ?_, by simp [ld], ?_, ?_, ?_, fz.upd nL.1 nL.2, keepW (keepU (keepU kG hx) hz) HL⟩ upd_same⟩
      · rw [off_upd (by simp)]
        exact (hd.sub sOff).snoc dnew
      · rw [fineAll_app, fd]
        simp only [fineAll, fine, Bool.and_true, Bool.true_and, Bool.and_eq_true, decide_eq_true_eq]
        omega
      · rw [wtAll_app]
        simp only [wtAll, wt]
        omega
      · refine depthAll_app _ _ _ dd ?_
        simp [PyData.depthAll, PyData.depth]
    · rintro acc G ⟨ds, hd, ld, fd, wd, dd, fG, kG⟩ hGL
      have ld' : ds.length = 3000 := ld
      have wd' : wtAll ds ≤ 174 * 3000 := wd
      refine ⟨L, rfl, acc, .inl ⟨.inl (.inl hGL), fun t ht => ?_⟩⟩
      have s2 := (off_less (T := [p, l]) G (by simp) : Same (off [p, l, L] G) _).trans (off_same (same_upd (o := .tup acc) ht))
      refine k t ds _ (.tup (.inl (.inl (off_new fG ht))) (hd.sub s2)) ld' ⟨by simpa only [fine] using fd, ?_, ?_⟩ (feedU fG ht) (keepU kG ht)
      · simp only [wt]
        omega
      · simp only [PyData.depth]
        omega
end
end C02
namespace C02
open PySem PySem.Spec PyProof.Rows L2 Lay M02
section
variable {P : Program} {w : World} {K : PySem.W.Frag} {mg : Str → Option Value} {base : Heap}
theorem LitA.list' {S : List Addr} {H0 : Hp} {σ : L2.St} {ta : TA} {ds : List PyData} {H : Hp} {Q : VK} (h : LitA K S H0 σ ta ds) (s : Same H0 H) (hl : ds.length ≤ 1000)
    (q : ∀ p xs H', Same H H' → H p = none → H' p = some (.lst xs) → DxAll K (off (p :: S) H') xs ds → Q (.ref p) H') : tLst ta σ H Q :=
  h H _ s fun vs H1 s1 hds => ⟨line _ (by rw [hds.len]; omega), fun p hp => q p vs _ (sameU s1 hp) (s1.free hp) upd_same (hds.sub fun b o e => by
    obtain ⟨z1, z2⟩ := off_some e
    refine off_of ?_ (same_upd hp b o z2)
    have : b ≠ p := ne_of_none z2 hp
    simp [this, z1])⟩
/-- [it for it in a good list if not right(it)] is empty -/
theorem cl_right {σ : L2.St} {q L : Addr} {xs : List V} {ds : List PyData} {H : Hp} {Q : VK} (h6 : 6 < σ.length) (hq : H q = some (.lst xs)) (hd : DxAll K H xs ds) (hg : ∀ d ∈ ds, Gd BB 1000000 20 d) (hL : H L = none)
    (k : ∀ G, Same H G → G L = some (.lst []) → Q (.ref L) G) :
    CLoop (Itl K q) (gName 6) (tNot (tB (tCall (sp_right K) [] E0 (tCons (tVar 6) tNil)))) (tVar 6) [6] σ L Q (upd H L (.lst [])) := by
  refine CLoop.list xs (fun i acc G => acc = [] ∧ Same H G) ⟨rfl, same_upd hL⟩ upd_same ?_ ?_ ?_
  · rintro i acc G ⟨_, s⟩ _
    exact .inl (.inl (s _ _ hq))
  · rintro i x acc G hx ⟨rfl, s⟩ hGL N hN
    obtain ⟨d, hdi⟩ : ∃ d, ds[i]? = some d := ⟨_, List.getElem?_eq_getElem (by rw [← hd.len]; exact (List.getElem?_eq_some_iff.mp hx).1)⟩
    have dx := (hd.get i x d hx hdi).sub s
    have e6 : (((σ.set 6 none).set 6 (some x)) : L2.St)[6]? = some (some x) := by rw [List.getElem?_set_self (by rw [List.length_set]; exact h6)]
    show wipe ((σ.set 6 none).set 6 (some x)) [6] = wipe σ [6] ∧ _
    refine ⟨by show (((σ.set 6 none).set 6 (some x)).set 6 none) = σ.set 6 none; rw [List.set_set, List.set_set], ?_⟩
    refine ⟨_, e6, x, d, rfl, dx, hg d (List.mem_of_getElem? hdi), fun H' s' => ⟨true, rfl, ?_⟩⟩
    exact hN _ _ ⟨rfl, s.trans s'⟩ (s' _ _ hGL)
  · rintro acc G ⟨rfl, s⟩ hGL
    exact k G s hGL
theorem ne_right {σ : L2.St} {i : Nat} {q : Addr} {xs : List V} {ds : List PyData} {H : Hp} {Q : Bool → Hp → Prop} (h6 : 6 < σ.length) (hi : σ[i]? = some (some (.ref q))) (hq : H q = some (.lst xs)) (hd : DxAll K H xs ds)
    (hg : ∀ d ∈ ds, Gd BB 1000000 20 d) (k : ∀ G, Same H G → Q false G) :
    tTest (tOp (rNeE K) (tLc (iList K (tVar i)) (gName 6) (tNot (tB (tCall (sp_right K) [] E0 (tCons (tVar 6) tNil)))) (tVar 6) [6]) (tLst tNil)) σ H Q := by
  show tLc _ _ _ _ _ σ H (fun x H1 => tLst tNil σ H1 fun y H2 => rNeE K x y H2 fun z H3 => ∃ k, z = .bl k ∧ Q k H3)
  rw [tLc_eq]
  refine ⟨_, hi, q, rfl, ⟨_, .inl (.inl hq)⟩, fun L hL => ?_⟩
  exact cl_right h6 hq hd hg hL fun G sG gL => ⟨line 0, fun e he =>
    ⟨_, _, [], rfl, rfl, .inr ⟨.inl (.inl (same_upd he _ _ gL)), .inl (.inl upd_same)⟩, _, rfl, k _ (sameU sG he)⟩⟩
theorem eq_right {σ : L2.St} {ta : TA} {S : List Addr} {H0 : Hp} {ds : List PyData} {H : Hp} {Q : VK} (h6 : 6 < σ.length) (h : LitA K S H0 σ ta ds) (s : Same H0 H) (hl : ds.length ≤ 1000)
    (hg : ∀ d ∈ ds, Gd BB 1000000 20 d) (k : ∀ G, Same H G → Q (.bl true) G) :
    tOp (rEqE K) (tLc (iList K (tLst ta)) (gName 6) (tNot (tB (tCall (sp_right K) [] E0 (tCons (tVar 6) tNil)))) (tVar 6) [6]) (tLst tNil) σ H Q := by
  show tLc _ _ _ _ _ σ H (fun x H1 => tLst tNil σ H1 fun y H2 => rEqE K x y H2 Q)
  rw [tLc_eq]
  show tLst ta σ H _
  refine LitA.list' h s hl fun q xs H1 s1 _ g1 d1 => ⟨q, rfl, ⟨_, .inl (.inl g1)⟩, fun L hL => ?_⟩
  exact cl_right h6 g1 (d1.sub (off_sub _ _)) hg hL fun G sG gL => ⟨line 0, fun e he =>
    ⟨_, _, [], rfl, rfl, .inr ⟨.inl (.inl (same_upd he _ _ gL)), .inl (.inl upd_same)⟩, k _ (sameU (s1.trans sG) he)⟩⟩
end
end C02
namespace C02
open PySem PySem.Spec PyProof.Rows L2 Lay M02
section
variable {P : Program} {w : World} {K : PySem.W.Frag} {mg : Str → Option Value} {base : Heap}
def Sh (p : Addr) (σ : L2.St) : Prop := σ.length = 14 ∧ σ[1]? = some (some (V.ref p))
theorem Sh.put {p : Addr} {σ : L2.St} (h : Sh p σ) {i : Nat} {x : Option V} (hi : i ≠ 1) : Sh p (σ.set i x) :=
  ⟨by rw [List.length_set]; exact h.1, by rw [List.getElem?_set_ne hi]; exact h.2⟩
theorem Sh.at {p : Addr} {σ : L2.St} (h : Sh p σ) {i : Nat} {x : Option V} (hi : i < 14) : (σ.set i x)[i]? = some x := by
  rw [List.getElem?_set_self (by rw [h.1]; exact hi)]
theorem other {σ : L2.St} {i j : Nat} {x : Option V} {y : Option (Option V)} (h : σ[j]? = y) (hij : i ≠ j) : (σ.set i x)[j]? = y := by
  rw [List.getElem?_set_ne hij]
  exact h
theorem item_ok {D : Ends} {σ : L2.St} {H : Hp} {p l : Addr} {n : Nat} {v : V} {d : PyData} (sh : Sh p σ) (hv : σ[6]? = some (some v)) (hd : Dx K (off [p, l] H) v d) (hg : Gd (10 ^ 40 + 1) 20200 4 d)
    (hF : Feed H p l n) (hn : n + 200 < 10 ^ 9) (k : ∀ σ' H' n', Sh p σ' → Feed H' p l n' → n' ≤ n + 102 → Keep p l H H' → D.nx σ' H') :
    tSeq (tAsg (tLc (iRng1 (tCons (tC (V.int 4)) tNil)) (gName 13) tYes (tCall (sp_bent K 4) [] E0 (tCons (tVar 1) (tCons (tVar 6) tNil))) [13]) (gName 11))
      (tFor (iList K (tOp rCat (tOp rCat (tLst (tCons (tVar 6) tNil)) (tVar 11))
          (tLst (tCons (tCall (sp_bent K 6) [] E0 (tCons (tVar 1) (tCons (tOp (rIxL K) (tVar 11) (tC (V.int 0))) tNil)))
            (tCons (tCall (sp_bent K 6) [] E0 (tCons (tVar 1) (tCons (tOp (rIxL K) (tVar 11) (tC (V.int 1))) tNil))) tNil))))) (gName 12)
        (tIfS (tNot (tB (tCall (sp_right K) [] E0 (tCons (tVar 12) tNil)))) (tRet (tC (V.bl false))) tNext)) D σ H := by
  refine seqSet ?_
  rw [tLc_eq]
  refine ⟨4, rfl, by decide, by decide, fun L hL => ?_⟩
  have nL := fresh hF hL
  refine CLoop.range (fun i acc G => ∃ ds ni, DxAll K (off [p, l, L] G) acc ds ∧ ds.length = i ∧ (∀ d ∈ ds, Gd (10 ^ 40 + 2) 41000 6 d) ∧ ni ≤ n + 15 * i ∧ Feed G p l ni ∧ Keep p l H G)
    ⟨[], n, .nil, rfl, (fun d hd => by cases hd), by omega, feedU hF hL, .of (same_upd hL)⟩ upd_same ?_ ?_
  · rintro i acc G hi ⟨ds, ni, hda, ld, gd, hni, fG, kG⟩ hGL N hN
    have i4 : i < 4 := hi
    have h0 : (((σ.set 13 none).set 13 (some (V.int (0 + i)))) : L2.St)[1]? = some (some (V.ref p)) := other (other sh.2 (by decide)) (by decide)
    have h6 : (((σ.set 13 none).set 13 (some (V.int (0 + i)))) : L2.St)[6]? = some (some v) := other (other hv (by decide)) (by decide)
    show wipe ((σ.set 13 none).set 13 (some (V.int (0 + i)))) [13] = wipe σ [13] ∧ _
    refine ⟨by show (((σ.set 13 none).set 13 (some (V.int (0 + i)))).set 13 none) = σ.set 13 none; rw [List.set_set, List.set_set], ?_⟩
    show tCall (sp_bent K 4) [] E0 (tCons (tVar 1) (tCons (tVar 6) tNil)) _ _ _
    refine ⟨_, h0, _, h6, [p, l, L], p, l, ni, v, d, 10 ^ 40 + 1, 20200, rfl, by simp, by simp, ?_, fG, by omega, ?_, hg, by decide, by decide, by decide, fun x e G2 n' hx gx hn' f' k' => ?_⟩
    · intro b hb
      rcases List.mem_cons.mp hb with rfl | hb
      · exact (there fG).1
      · rcases List.mem_cons.mp hb with rfl | hb
        · exact (there fG).2
        · rw [List.mem_singleton.mp hb, hGL]
          exact Option.some_ne_none _
    · have s1 : Same (off [p, l] H) (off [p, l, L] H) := fun b o z => by
        obtain ⟨z1, z2⟩ := off_some z
        have : b ≠ L := ne_of_none z2 hL
        refine off_of ?_ z2
        simp only [List.mem_cons, List.not_mem_nil, or_false, not_or] at z1 ⊢
        exact ⟨z1.1, z1.2, this⟩
      exact (hd.sub s1).sub (kG.off (by simp) (by simp))
    · have gL2 := k' _ _ hGL nL.1 nL.2
      refine ⟨acc, gL2, ltline _ (by rw [hda.len]; omega), hN _ _ ⟨ds ++ [e], n', ?_, by simp [ld], ?_, by omega, f'.upd nL.1 nL.2, keepW (kG.trans k') hL⟩ upd_same⟩
      · rw [off_upd (by simp)]
        exact (hda.sub (k'.off (by simp) (by simp))).snoc hx
      · intro d' hd'
        rcases List.mem_append.mp hd' with z | z
        · exact gd d' z
        · rw [List.mem_singleton.mp z]
          exact gx.mono (by decide) (by decide) (by decide)
  · rintro acc G ⟨ds, ni, hda, ld, gd, hni, fG, kG⟩ hGL
    have shL := sh.put (i := 11) (x := some (V.ref L)) (by decide)
    obtain ⟨τ, hτ⟩ : ∃ τ : L2.St, τ = σ.set 11 (some (V.ref L)) := ⟨_, rfl⟩
    have h6 : τ[6]? = some (some v) := by rw [hτ]; exact other hv (by decide)
    have h11 : τ[11]? = some (some (V.ref L)) := by rw [hτ]; exact sh.at (by decide)
    rw [← hτ] at shL ⊢
    have s1 : Same (off [p, l, L] G) (off [p, l] G) := off_less G (by simp)
    have hdG : Dx K (off [p, l] G) v d := hd.sub (kG.off (by simp) (by simp))
    have haG : DxAll K (off [p, l] G) acc ds := hda.sub s1
    have la : acc.length = 4 := by rw [hda.len, ld]; rfl
    obtain ⟨x0, x1, x2, x3, rfl⟩ : ∃ x0 x1 x2 x3, acc = [x0, x1, x2, x3] := by
      match acc, la with
      | [x0, x1, x2, x3], _ => exact ⟨x0, x1, x2, x3, rfl⟩
    obtain ⟨d0, d1, d2, d3, rfl⟩ : ∃ d0 d1 d2 d3, ds = [d0, d1, d2, d3] := by
      match ds, ld with
      | [d0, d1, d2, d3], _ => exact ⟨d0, d1, d2, d3, rfl⟩
    rw [tFor_eq]
    refine ⟨_, h6, line 1, fun q1 hq1 => ⟨_, h11, q1, L, [v], _, rfl, rfl, upd_same, same_upd hq1 _ _ hGL, line 5, fun q2 hq2 => ?_⟩⟩
    have t2 : Same G (upd (upd G q1 (.lst [v])) q2 (.lst ([v] ++ [x0, x1, x2, x3]))) := sameU (same_upd hq1) hq2
    have f2 := fG.same t2
    have g2 : (upd (upd G q1 (.lst [v])) q2 (.lst ([v] ++ [x0, x1, x2, x3]))) q2 = some (.lst ([v] ++ [x0, x1, x2, x3])) := upd_same
    have nq2 := fresh (feedU (o := .lst [v]) fG hq1) hq2
    generalize upd (upd G q1 (.lst [v])) q2 (.lst ([v] ++ [x0, x1, x2, x3])) = G2 at t2 f2 g2
    have hdG2 := hdG.sub (off_same t2)
    have haG2 := haG.sub (off_same t2)
    have kG2 := kG.trans (.of t2)
    have gd0' := gd d0 (by simp)
    have gd1' := gd d1 (by simp)
    obtain ⟨x0d, r1⟩ : Dx K (off [p, l] G2) x0 d0 ∧ DxAll K (off [p, l] G2) [x1, x2, x3] [d1, d2, d3] := by
      cases haG2 with
      | cons a b => exact ⟨a, b⟩
    have x1d : Dx K (off [p, l] G2) x1 d1 := by
      cases r1 with
      | cons a b => exact a
    refine ⟨_, shL.2, _, h11, L, _, 0, x0, rfl, rfl, .inl (.inl (t2 _ _ hGL)), rfl, [p, l], p, l, ni, x0, d0, 10 ^ 40 + 2, 41000, rfl, by simp, by simp, hS2 f2, f2, by omega, x0d, gd0', by decide, by decide, by decide, fun x5 e5 G5 n5 hx5 gx5 hn5 f5 k5 => ?_⟩
    have x1d5 : Dx K (off [p, l] G5) x1 d1 := x1d.sub (k5.off (by simp) (by simp))
    refine ⟨_, shL.2, _, h11, L, _, 1, x1, rfl, rfl, .inl (.inl (k5 _ _ (t2 _ _ hGL) nL.1 nL.2)), rfl, [p, l], p, l, n5, x1, d1, 10 ^ 40 + 2, 41000, rfl, by simp, by simp, hS2 f5, f5, by omega, x1d5, gd1', by decide, by decide, by decide, fun x6 e6 G6 n6 hx6 gx6 hn6 f6 k6 => ?_⟩
    have k56 := k5.trans k6
    have hx56 : Dx K (off [p, l] G6) x5 e5 := hx5.sub (k6.off (by simp) (by simp))
    refine ⟨line 2, fun q3 hq3 => ⟨q2, q3, _, _, rfl, rfl, same_upd hq3 _ _ (k56 _ _ g2 nq2.1 nq2.2), upd_same, line 7, fun q4 hq4 => ?_⟩⟩
    have t6 : Same G6 (upd (upd G6 q3 (.lst [x5, x6])) q4 (.lst (([v] ++ [x0, x1, x2, x3]) ++ [x5, x6]))) := sameU (same_upd hq3) hq4
    have f7 := f6.same t6
    have g7 : (upd (upd G6 q3 (.lst [x5, x6])) q4 (.lst (([v] ++ [x0, x1, x2, x3]) ++ [x5, x6]))) q4 = some (.lst (([v] ++ [x0, x1, x2, x3]) ++ [x5, x6])) := upd_same
    generalize upd (upd G6 q3 (.lst [x5, x6])) q4 (.lst (([v] ++ [x0, x1, x2, x3]) ++ [x5, x6])) = G7 at t6 f7 g7
    have kAll := ((kG2.trans k56).trans (.of t6))
    have dAll : DxAll K (off [p, l] G7) (([v] ++ [x0, x1, x2, x3]) ++ [x5, x6]) (([d] ++ [d0, d1, d2, d3]) ++ [e5, e6]) := by
      have z1 := (hdG2.sub (k56.off (by simp) (by simp))).sub (off_same t6)
      have z2 := (haG2.sub (k56.off (by simp) (by simp))).sub (off_same t6)
      exact ((DxAll.cons z1 .nil).app z2).app (.cons (hx56.sub (off_same t6)) (.cons (hx6.sub (off_same t6)) .nil))
    have gAll : ∀ z ∈ (([d] ++ [d0, d1, d2, d3]) ++ [e5, e6]), Gd BB 1000000 20 z := by
      intro z hz
      have bb : 10 ^ 40 + 3 ≤ BB := by unfold BB; decide
      rcases List.mem_append.mp hz with hz | hz
      · rcases List.mem_append.mp hz with hz | hz
        · rw [List.mem_singleton.mp hz]
          exact hg.mono (by omega) (by decide) (by decide)
        · exact (gd z hz).mono (by omega) (by decide) (by decide)
      · rcases List.mem_cons.mp hz with rfl | hz
        · exact gx5.mono (by omega) (by decide) (by decide)
        · rw [List.mem_singleton.mp hz]
          exact gx6.mono (by omega) (by decide) (by decide)
    refine ⟨q4, rfl, ⟨_, .inl (.inl g7)⟩, ?_⟩
    change Loop _ _ _ _ _ _
    refine Loop.list _ (fun i τ' G => Sh p τ' ∧ Same G7 G) ⟨shL, Same.refl G7⟩ (fun i τ' G ⟨_, s⟩ => .inl (.inl (s _ _ g7))) ?_ ?_
    · rintro i x τ' G8 hx ⟨sh', s8⟩
      obtain ⟨z, hz⟩ : ∃ z, (([d] ++ [d0, d1, d2, d3]) ++ [e5, e6])[i]? = some z := ⟨_, List.getElem?_eq_getElem (by rw [← dAll.len]; exact (List.getElem?_eq_some_iff.mp hx).1)⟩
      have dx := ((dAll.get i x z hx hz).sub (off_sub _ _)).sub s8
      refine ⟨_, sh'.at (i := 12) (by decide), x, z, rfl, dx, gAll z (List.mem_of_getElem? hz), fun G9 s9 => ⟨true, rfl, ?_⟩⟩
      refine iteF ?_
      exact ⟨sh'.put (by decide), s8.trans s9⟩
    · rintro τ' G8 ⟨sh', s8⟩
      exact k τ' G8 n6 sh' (f7.same s8) (by omega) (kAll.trans (.of s8))
end
end C02
namespace C02
open PySem PySem.Spec PyProof.Rows L2 Lay M02
section
variable {P : Program} {w : World} {K : PySem.W.Frag} {mg : Str → Option Value} {base : Heap}
def tItem (K : PySem.W.Frag) : TS := tSeq (tAsg (tLc (iRng1 (tCons (tC (V.int 4)) tNil)) (gName 13) tYes (tCall (sp_bent K 4) [] E0 (tCons (tVar 1) (tCons (tVar 6) tNil))) [13]) (gName 11))
      (tFor (iList K (tOp rCat (tOp rCat (tLst (tCons (tVar 6) tNil)) (tVar 11))
          (tLst (tCons (tCall (sp_bent K 6) [] E0 (tCons (tVar 1) (tCons (tOp (rIxL K) (tVar 11) (tC (V.int 0))) tNil)))
            (tCons (tCall (sp_bent K 6) [] E0 (tCons (tVar 1) (tCons (tOp (rIxL K) (tVar 11) (tC (V.int 1))) tNil))) tNil))))) (gName 12)
        (tIfS (tNot (tB (tCall (sp_right K) [] E0 (tCons (tVar 12) tNil)))) (tRet (tC (V.bl false))) tNext))
theorem turn_ok {D : Ends} {σ : L2.St} {H : Hp} {p l : Addr} {n : Nat} (sh : Sh p σ) (hF : Feed H p l n) (hn : n + 2000 < 10 ^ 9) (k : ∀ σ' H' n', Sh p σ' → Feed H' p l n' → n' ≤ n + 900 → Keep p l H H' → D.nx σ' H') :
    tSeq (tPar 9 10 (tCons (tCall (sp_made K) [] E0 (tCons (tVar 1) tNil)) (tCons (tCall sp_word [] E0 (tCons (tVar 1) tNil)) tNil)))
      (tSeq (tAsg (tLst (tCons (tTup (tCons (tCall sp_number [] E0 (tCons (tVar 1) tNil)) (tCons (tCall sp_number [] E0 (tCons (tVar 1) tNil)) tNil)))
          (tCons (tVar 9) (tCons (tVar 10) (tCons (tTup (tCons (tVar 10) (tCons (tVar 9) tNil)))
            (tCons (tTup (tCons (tVar 10) (tCons (tSl (rSlA K) (tVar 9) tNoPart (tPart (tC (V.int 1)))) tNil))) tNil)))))) (gName 5))
        (tFor (iList K (tVar 5)) (gName 6) (tItem K))) D σ H := by
  refine ⟨_, sh.2, p, l, n, rfl, hF, by omega, fun q ds H1 n1 hq hg hn1 f1 k1 => ?_⟩
  refine ⟨_, sh.2, p, l, n1, rfl, f1, by omega, fun x H2 n2 hx hx2 hn2 f2 k2 => ⟨_, _, rfl, ?_⟩⟩
  dsimp only
  obtain ⟨τ, hτ⟩ : ∃ τ : L2.St, τ = (σ.set 9 (some (V.ref q))).set 10 (some (V.str x)) := ⟨_, rfl⟩
  have shT : Sh p τ := by rw [hτ]; exact (sh.put (by decide)).put (by decide)
  have h9 : τ[9]? = some (some (V.ref q)) := by rw [hτ]; exact other (sh.at (by decide)) (by decide)
  have h10 : τ[10]? = some (some (V.str x)) := by rw [hτ]; exact (sh.put (by decide)).at (by decide)
  rw [← hτ]
  refine seqSet ?_
  refine ⟨_, shT.2, p, l, n2, rfl, f2, by omega, fun i H3 i0 i1 f3 k3 => ?_⟩
  refine ⟨_, shT.2, p, l, n2 + 2, rfl, f3, by omega, fun j H4 j0 j1 f4 k4 => ⟨line 2, fun t ht => ?_⟩⟩
  have f5 := feedU (o := .tup [.int i, .int j]) f4 ht
  have k5 := keepU (o := .tup [.int i, .int j]) ((k2.trans k3).trans k4) ht
  have dq : Dx K (off [p, l] (upd H4 t (.tup [.int i, .int j]))) (.ref q) (.tuple ds) := hq.sub (k5.off (by simp) (by simp))
  have dt : Dx K (off [p, l] (upd H4 t (.tup [.int i, .int j]))) (.ref t) (.tuple [.int i, .int j]) := .tup (.inl (.inl (off_new f4 ht))) (.cons (.int _) (.cons (.int _) .nil))
  have kk := k1.trans k5
  generalize upd H4 t (.tup [.int i, .int j]) = H5 at f5 k5 dq dt kk
  have hS := hS2 f5
  have rest : LitA K [p, l] H5 τ (tCons (tVar 9) (tCons (tVar 10) (tCons (tTup (tCons (tVar 10) (tCons (tVar 9) tNil)))
            (tCons (tTup (tCons (tVar 10) (tCons (tSl (rSlA K) (tVar 9) tNoPart (tPart (tC (V.int 1)))) tNil))) tNil))))
      [.tuple ds, .str x, .tuple [.str x, .tuple ds], .tuple [.str x, .tuple (cutD ds none (some 1))]] :=
    .cons (.var h9 dq) (.cons (.var h10 (.str x)) (.cons (.tup hS (.cons (.var h10 (.str x)) (.cons (.var h9 dq) .nil)) (by simp))
      (.cons (.tup hS (.cons (.var h10 (.str x)) (.cons (.sl hS (.var h9 dq) (fun H Q z => z) (fun H Q z => ⟨1, rfl, z⟩)) .nil)) (by simp)) .nil)))
  refine rest H5 _ (Same.refl H5) fun vs H6 s6 hvs => ⟨line _ (by rw [List.length_cons, hvs.len]; simp), fun g hg6 => ?_⟩
  have hv5 : DxAll K (off [p, l] H6) (V.ref t :: vs) (.tuple [.int i, .int j] :: [.tuple ds, .str x, .tuple [.str x, .tuple ds], .tuple [.str x, .tuple (cutD ds none (some 1))]]) := .cons (dt.sub (off_same s6)) hvs
  have ng := fresh (f5.same s6) hg6
  have f7 := feedU (o := .lst (V.ref t :: vs)) (f5.same s6) hg6
  have k7 : Keep p l H (upd H6 g (.lst (V.ref t :: vs))) := keepU (kk.trans (.of s6)) hg6
  have dv : DxAll K (off [p, l] (upd H6 g (.lst (V.ref t :: vs)))) (V.ref t :: vs) (.tuple [.int i, .int j] :: [.tuple ds, .str x, .tuple [.str x, .tuple ds], .tuple [.str x, .tuple (cutD ds none (some 1))]]) := hv5.sub (off_same (same_upd hg6))
  have g7 : (upd H6 g (.lst (V.ref t :: vs))) g = some (.lst (V.ref t :: vs)) := upd_same
  have shG := shT.put (i := 5) (x := some (V.ref g)) (by decide)
  have h5 : (τ.set 5 (some (V.ref g)))[5]? = some (some (V.ref g)) := shT.at (by decide)
  show tFor (iList K (tVar 5)) (gName 6) (tItem K) D (τ.set 5 (some (V.ref g))) (upd H6 g (.lst (V.ref t :: vs)))
  generalize upd H6 g (.lst (V.ref t :: vs)) = H7 at f7 k7 dv g7
  have gAll : ∀ z ∈ (PyData.tuple [.int i, .int j] :: [.tuple ds, .str x, .tuple [.str x, .tuple ds], .tuple [.str x, .tuple (cutD ds none (some 1))]]), Gd (10 ^ 40 + 1) 20200 4 z := by
    have hw := hg.wt
    have hdp := hg.dp
    have hfi := hg.fi
    have gs : Gd (10 ^ 40 + 1) 100 0 (.str x) := str_gd hx2 (by omega)
    have gcut : Gd (10 ^ 40 + 1) 20000 3 (.tuple (cutD ds none (some 1))) := by
      refine (hg.parts (m := 2) (fun e he => List.mem_of_mem_drop (List.mem_of_mem_take he)) (M := 20000) ?_).1
      have h1 := wt_split (ds.drop (HT.sIx ds.length 0 none)) (HT.sIx ds.length ds.length (some 1) - HT.sIx ds.length 0 none)
      have h2 := wt_split ds (HT.sIx ds.length 0 none)
      have h3 : 4 + wtAll ds ≤ 20000 := hw
      show wtAll ((ds.drop (HT.sIx ds.length 0 none)).take (HT.sIx ds.length ds.length (some 1) - HT.sIx ds.length 0 none)) + 4 ≤ 20000
      omega
    have pair : ∀ es : List PyData, Gd (10 ^ 40 + 1) 20000 3 (.tuple es) → Gd (10 ^ 40 + 1) 20200 4 (.tuple [.str x, .tuple es]) := by
      intro es ge
      refine ⟨?_, ?_, ?_⟩
      · have a1 := gs.fi
        have a2 := ge.fi
        simp only [fine, fineAll, Bool.and_true, Bool.and_eq_true] at a1 a2 ⊢
        exact ⟨a1, a2⟩
      · have a1 := gs.wt
        have a2 := ge.wt
        simp only [wt, wtAll] at a1 a2 ⊢
        omega
      · have a2 := ge.dp
        simp only [PyData.depth, PyData.depthAll] at a2 ⊢
        omega
    intro z hz
    simp only [List.mem_cons, List.not_mem_nil, or_false] at hz
    rcases hz with rfl | rfl | rfl | rfl | rfl
    · refine ⟨?_, ?_, ?_⟩
      · simp only [fine, fineAll, Bool.and_true, Bool.and_eq_true, decide_eq_true_eq]
        omega
      · simp only [wt, wtAll]
        omega
      · simp only [PyData.depth, PyData.depthAll]
        omega
    · exact hg.mono (Nat.le_refl _) (by decide) (by decide)
    · exact gs.mono (Nat.le_refl _) (by decide) (by decide)
    · exact pair ds hg
    · exact pair _ gcut
  rw [tFor_eq]
  refine ⟨_, h5, g, rfl, ⟨_, .inl (.inl g7)⟩, ?_⟩
  change Loop _ _ _ _ _ _
  refine Loop.list (V.ref t :: vs) (fun i τ' G => ∃ ni, Sh p τ' ∧ Feed G p l ni ∧ ni ≤ n2 + 4 + 102 * i ∧ Keep p l H7 G) ⟨n2 + 4, shG, f7, by omega, .of (Same.refl H7)⟩ (fun i τ' G ⟨_, _, _, _, kG⟩ => .inl (.inl (kG _ _ g7 ng.1 ng.2))) ?_ ?_
  · rintro i' v τ' G hv ⟨ni, shτ, fG, hni, kG⟩
    have hlt : i' < 5 := by
      have := (List.getElem?_eq_some_iff.mp hv).1
      rw [dv.len] at this
      simpa using this
    obtain ⟨z, hz⟩ : ∃ z, (PyData.tuple [.int i, .int j] :: [.tuple ds, .str x, .tuple [.str x, .tuple ds], .tuple [.str x, .tuple (cutD ds none (some 1))]])[i']? = some z :=
      ⟨_, List.getElem?_eq_getElem (by rw [← dv.len]; exact (List.getElem?_eq_some_iff.mp hv).1)⟩
    have dz := (dv.get i' v z hv hz).sub (kG.off (S := [p, l]) (by simp) (by simp))
    exact item_ok (shτ.put (by decide)) (shτ.at (by decide)) dz (gAll z (List.mem_of_getElem? hz)) fG (by omega) fun σ' H' n' sh' f' hn' k' => ⟨n', sh', f', by omega, kG.trans k'⟩
  · rintro τ' G ⟨ni, shτ, fG, hni, kG⟩
    have hlen : (V.ref t :: vs).length = 5 := by rw [dv.len]; rfl
    rw [hlen] at hni
    exact k τ' G ni shτ fG (by omega) (k7.trans kG)
end
end C02
namespace C02
open PySem PySem.Spec PyProof.Rows L2 Lay M02
section
variable {P : Program} {w : World} {K : PySem.W.Frag} {mg : Str → Option Value} {base : Heap}
theorem Lit.ix {S : List Addr} {H0 : Hp} {σ : L2.St} {te ti : TE} {ds : List PyData} {d : PyData} {j : Nat} (h : Lit K S H0 σ te (.tuple ds)) (hi : ∀ H Q, Q (.int j) H → ti σ H Q) (hj : ds[j]? = some d) :
    Lit K S H0 σ (tOp (rIxT K) te ti) d := fun H Q s q =>
  h H _ s fun v H1 s1 hd => hi H1 _ (by
    obtain ⟨a, xs, rfl, hs, ha⟩ := hd.seq
    obtain ⟨y, hy⟩ : ∃ y, xs[j]? = some y := ⟨_, List.getElem?_eq_getElem (by rw [ha.len]; exact (List.getElem?_eq_some_iff.mp hj).1)⟩
    exact ⟨a, xs, j, y, rfl, rfl, sameT (off_sub _ _) hs, atI_nat hy, q y H1 s1 (ha.get j y d hy hj)⟩)
theorem end_ok {D : Ends} {σ : L2.St} {H : Hp} {p l : Addr} {n : Nat} (sh : Sh p σ) (hF : Feed H p l n) (hn : n + 2000 < 10 ^ 9) (k : ∀ G, D.rt (.bl true) G) :
    tSeq (tPar 7 8 (tCons (tCall (sp_great K) [] E0 (tCons (tVar 1) tNil)) (tCons (tCall sp_take [] E0 (tCons (tVar 1) (tCons (tC (V.int 2999)) tNil))) tNil)))
      (tSeq (tAsg (tOp (rCatA K) (tOp (rCatA K) (tSl (rSlA K) (tVar 7) tNoPart (tPart (tVar 8)))
            (tTup (tCons (tOp (rIxT K) (tVar 7) (tOp (rI0 fun i j => V.int (i + j)) (tVar 8) (tC (V.int 1)))) (tCons (tOp (rIxT K) (tVar 7) (tVar 8)) tNil))))
          (tSl (rSlA K) (tVar 7) (tPart (tOp (rI0 fun i j => V.int (i + j)) (tVar 8) (tC (V.int 2)))) tNoPart)) (gName 4))
        (tRet (tOp (rEqE K) (tLc (iList K (tLst (tCons (tVar 7) (tCons (tVar 4) (tCons (tTup (tCons (tC (V.str (Str.ofString "a"))) (tCons (tVar 7) tNil)))
            (tCons (tTup (tCons (tC (V.str (Str.ofString "a"))) (tCons (tVar 4) tNil))) tNil))))))
          (gName 6) (tNot (tB (tCall (sp_right K) [] E0 (tCons (tVar 6) tNil)))) (tVar 6) [6]) (tLst tNil)))) D σ H := by
  refine ⟨_, sh.2, p, l, n, rfl, hF, by omega, fun q ds H1 hq lq hg f1 k1 => ?_⟩
  refine ⟨_, sh.2, p, l, n + 2, 2999, rfl, f1, by omega, by decide, by decide, fun r H2 r0 r1 f2 k2 => ⟨_, _, rfl, ?_⟩⟩
  dsimp only
  obtain ⟨j, rfl⟩ : ∃ j : Nat, r = j := ⟨r.toNat, by omega⟩
  have hj : j < 2999 := by omega
  obtain ⟨τ, hτ⟩ : ∃ τ : L2.St, τ = (σ.set 7 (some (V.ref q))).set 8 (some (V.int j)) := ⟨_, rfl⟩
  have shT : Sh p τ := by rw [hτ]; exact (sh.put (by decide)).put (by decide)
  have h7 : τ[7]? = some (some (V.ref q)) := by rw [hτ]; exact other (sh.at (by decide)) (by decide)
  have h8 : τ[8]? = some (some (V.int j)) := by rw [hτ]; exact (sh.put (by decide)).at (by decide)
  rw [← hτ]
  have hS := hS2 f2
  have dq : Dx K (off [p, l] H2) (.ref q) (.tuple ds) := hq.sub (k2.off (by simp) (by simp))
  obtain ⟨a, ha⟩ : ∃ a, ds[j]? = some a := ⟨_, List.getElem?_eq_getElem (by omega)⟩
  obtain ⟨b, hb⟩ : ∃ b, ds[j + 1]? = some b := ⟨_, List.getElem?_eq_getElem (by omega)⟩
  have cT : cutD ds none (some (j : Int)) = ds.take j := by
    unfold cutD
    rw [HT.sIx_none, HT.sIx_nat, List.drop_zero, Nat.sub_zero, Nat.min_eq_left (by omega)]
  have cD : cutD ds (some ((j : Int) + 2)) none = ds.drop (j + 2) := by
    unfold cutD
    rw [HT.sIx_none, show ((j : Int) + 2) = ((j + 2 : Nat) : Int) from rfl, HT.sIx_nat, List.take_of_length_le (by rw [List.length_drop]; omega)]
    by_cases h : j + 2 ≤ ds.length
    · rw [Nat.min_eq_left h]
    · omega
  have inc : ∀ (q : Int) H Q, Q (some ((j : Int) + q)) H → tPart (tOp (rI0 fun i j => V.int (i + j)) (tVar 8) (tC (V.int q))) τ H Q := fun q H Q z => ⟨_, h8, j, q, rfl, rfl, _, rfl, z⟩
  have base0 : Lit K [p, l] H2 τ (tVar 7) (.tuple ds) := .var h7 dq
  have turned : Lit K [p, l] H2 τ (tOp (rCatA K) (tOp (rCatA K) (tSl (rSlA K) (tVar 7) tNoPart (tPart (tVar 8)))
            (tTup (tCons (tOp (rIxT K) (tVar 7) (tOp (rI0 fun i j => V.int (i + j)) (tVar 8) (tC (V.int 1)))) (tCons (tOp (rIxT K) (tVar 7) (tVar 8)) tNil))))
          (tSl (rSlA K) (tVar 7) (tPart (tOp (rI0 fun i j => V.int (i + j)) (tVar 8) (tC (V.int 2)))) tNoPart)) (.tuple ((ds.take j ++ [b, a]) ++ ds.drop (j + 2))) := by
    rw [← cT, ← cD]
    refine .cat hS (.cat hS (.sl hS base0 (fun H Q z => z) (fun H Q z => ⟨_, h8, _, rfl, z⟩)) (.tup hS (.cons (.ix base0 (j := j + 1) (fun H Q z => ⟨_, h8, j, 1, rfl, rfl, z⟩) hb) (.cons (.ix base0 (fun H Q z => ⟨_, h8, z⟩) ha) .nil)) (by simp)) ?_)
      (.sl hS base0 (inc 2) (fun H Q z => z)) ?_
    · rw [cT, List.length_take]
      simp only [List.length_cons, List.length_nil]
      omega
    · rw [cT, cD, List.length_append, List.length_take, List.length_drop]
      simp only [List.length_cons, List.length_nil]
      omega
  refine seqSet ?_
  refine turned H2 _ (Same.refl H2) fun v4 H3 s3 hv4 => ?_
  have dq3 := dq.sub (off_same s3)
  have f3 := f2.same s3
  have hS3 := hS2 f3
  have sh4 := shT.put (i := 4) (x := some v4) (by decide)
  have h4 : (τ.set 4 (some v4))[4]? = some (some v4) := shT.at (by decide)
  have h7' : (τ.set 4 (some v4))[7]? = some (some (V.ref q)) := other h7 (by decide)
  refine eq_right (S := [p, l]) (H0 := H3) (ds := [.tuple ds, .tuple ((ds.take j ++ [b, a]) ++ ds.drop (j + 2)), .tuple [.str "a", .tuple ds], .tuple [.str "a", .tuple ((ds.take j ++ [b, a]) ++ ds.drop (j + 2))]])
    (by rw [sh4.1]; decide) ?_ (Same.refl H3) (by simp) ?_ fun G _ => k G
  · exact .cons (.var h7' dq3) (.cons (.var h4 hv4) (.cons (.tup hS3 (.cons .str (.cons (.var h7' dq3) .nil)) (by simp)) (.cons (.tup hS3 (.cons .str (.cons (.var h4 hv4) .nil)) (by simp)) .nil)))
  · have g2 : Gd (10 ^ 39) 600000 3 (.tuple ((ds.take j ++ [b, a]) ++ ds.drop (j + 2))) := by
      refine (hg.parts (m := 2) ?_ (M := 600000) ?_).1
      · intro e he
        rcases List.mem_append.mp he with he | he
        · rcases List.mem_append.mp he with he | he
          · exact List.mem_of_mem_take he
          · rcases List.mem_cons.mp he with rfl | he
            · exact List.mem_of_getElem? hb
            · rw [List.mem_singleton.mp he]
              exact List.mem_of_getElem? ha
        · exact List.mem_of_mem_drop he
      · have w0 : 4 + wtAll ds ≤ 600000 := hg.wt
        have h1 := wt_split ds j
        have e1 : ds.drop j = a :: b :: ds.drop (j + 2) := by
          rw [List.drop_eq_getElem_cons (by omega : j < ds.length), List.drop_eq_getElem_cons (by omega : j + 1 < ds.length)]
          have z1 : ds[j] = a := (List.getElem?_eq_some_iff.mp ha).2
          have z2 : ds[j + 1] = b := (List.getElem?_eq_some_iff.mp hb).2
          rw [z1, z2]
        rw [e1] at h1
        rw [wtAll_app, wtAll_app]
        simp only [wtAll] at h1 ⊢
        omega
    have bb : 10 ^ 39 ≤ BB := by unfold BB; decide
    have named : ∀ es : List PyData, Gd (10 ^ 39) 600000 3 (.tuple es) → Gd BB 1000000 20 (.tuple [.str "a", .tuple es]) := by
      intro es ge
      have gs : Gd (10 ^ 39) 100 0 (.str "a") := str_gd (by decide +kernel) (by decide +kernel)
      have g4 : Gd (10 ^ 39) 600200 4 (.tuple [.str "a", .tuple es]) := by
        refine ⟨?_, ?_, ?_⟩
        · have a1 := gs.fi
          have a2 := ge.fi
          simp only [fine, fineAll, Bool.and_true, Bool.and_eq_true] at a1 a2 ⊢
          exact ⟨a1, a2⟩
        · have a1 := gs.wt
          have a2 := ge.wt
          simp only [wt, wtAll] at a1 a2 ⊢
          omega
        · have a2 := ge.dp
          simp only [PyData.depth, PyData.depthAll] at a2 ⊢
          omega
      exact g4.mono bb (by decide) (by decide)
    intro z hz
    simp only [List.mem_cons, List.not_mem_nil, or_false] at hz
    rcases hz with rfl | rfl | rfl | rfl
    · exact hg.mono bb (by decide) (by decide)
    · exact g2.mono bb (by decide) (by decide)
    · exact named _ hg
    · exact named _ g2
end
end C02
namespace C02
open PySem PySem.Spec PyProof.Rows L2 Lay M02
section
variable {P : Program} {w : World} {K : PySem.W.Frag} {mg : Str → Option Value} {base : Heap}
def sp_law (K : PySem.W.Frag) : Sp := fun vs H Q _ => ∃ (a : Addr) (ns : List Int), vs = [.ref a] ∧ SqL K H a (ns.map V.int) ∧ ns.length ≤ 63 ∧ ∀ H', Q (.bl true) H'
def litA : List PyData := [.none, .bool true, .int 0, .str "", .str "a", .str "abcdefgh", .str "abcdefghi", .str "A", .str "\n", .tuple [], .tuple [.tuple []], .tuple [.int 0, .int 0], .tuple [.int 0, .int (-1)], .tuple [.bool true, .int 0]]
def litB : List PyData := [.list [.int 0, .int 0], .list [], .dict [], .tuple [.tuple [.str "a", .tuple []]], .tuple [.str "a", .tuple []], .tuple [.str "a", .tuple [.tuple [.tuple [.int 0, .int 0], .int 1]]], .tuple [.tuple [.tuple [.int 0, .int 0], .int 1], .tuple [.tuple [.int 0, .int 0], .int 2]]]
def litC : List PyData := [.tuple [.str "a", .tuple [.tuple [.tuple [.int 0, .int 1], .int 1], .tuple [.tuple [.int 0, .int 0], .int 2]]], .tuple [.str "a", .tuple [.tuple [.tuple [.int 0, .int 0], .int 1], .tuple [.tuple [.int 1, .int 0], .int 2]]], .tuple [.str "a", .str "b"]]
def litD : List PyData := [.tuple [.tuple [.tuple [.int 0, .int 0], .int 1], .tuple [.tuple [.int 1, .int 0], .int 2]], .tuple [.str "", .tuple [.tuple [.tuple [.int 0, .int 0], .int 1]]], .tuple [.str "a", .list [.tuple [.tuple [.int 0, .int 0], .int 1]]], .list [.str "a", .tuple [.tuple [.tuple [.int 0, .int 0], .int 1]]]]
def litE : List PyData := [.tuple [.tuple [.tuple [.int 0, .int 0], .bool true]], .tuple [.tuple [.tuple [.int 0, .int 0], .none]]]
theorem lits_gd : ∀ d ∈ (((((litA ++ [PyData.tuple [.int 0, .int 0, .int 0]]) ++ litB) ++ litC) ++ litD) ++ litE), Gd BB 1000000 20 d := by
  intro d hd
  have h : Gd (10 ^ 39) 1000 6 d := by
    have all : ((((((litA ++ [PyData.tuple [.int 0, .int 0, .int 0]]) ++ litB) ++ litC) ++ litD) ++ litE).all fun d => fine (10 ^ 39) d && decide (wt d ≤ 1000) && decide (d.depth ≤ 6)) = true := by decide +kernel
    have h := List.all_eq_true.mp all d hd
    rw [Bool.and_eq_true, Bool.and_eq_true, decide_eq_true_eq, decide_eq_true_eq] at h
    exact ⟨h.1.1, h.1.2, h.2⟩
  exact h.mono (by unfold BB; decide) (by decide) (by decide)
theorem ok_law {f : Addr} {fd : FuncData} (F : Fun K "law" "law" s_law f fd) (z_range : mg "range" = none)
    (D_law_feed : Has P w K mg base 1 "_law_feed" ["_law_script"] (sp_feed K))
    (D_law_take : Has P w K mg base 1 "_law_take" ["_law_feed_here", "_law_many"] sp_take)
    (D_law_number : Has P w K mg base 3 "_law_number" ["_law_feed_here"] sp_number)
    (D_law_made : Has P w K mg base 5 "_law_made" ["_law_feed_here"] (sp_made K))
    (D_law_word : Has P w K mg base 3 "_law_word" ["_law_feed_here"] sp_word)
    (D_law_great : Has P w K mg base 3 "_law_great" ["_law_feed_here"] (sp_great K))
    (D_law_right : Has P w K mg base 6 "_law_right" ["_law_it"] (sp_right K))
    (D_law_bent4 : Has P w K mg base 8 "_law_bent" ["_law_feed_here", "_law_it"] (sp_bent K 4))
    (D_law_bent6 : Has P w K mg base 10 "_law_bent" ["_law_feed_here", "_law_it"] (sp_bent K 6)) :
    FnG P w K mg base CX0 11 f fd ["_law_script"] (sp_law K) := by
  refine okG F sc_law (fun vs H Q E h => ?_) (fun cdv A outer s H vs Q E hr hq h => ?_)
  · obtain ⟨a, ns, rfl, _⟩ := h
    rfl
  · obtain ⟨a, ns, rfl, ha, hn, k⟩ := h
    have nd := sc_law.nd
    refine ⟨_, (pss_cons (ps_set (i := 1) nd rfl (Or.inr rfl) (pe_c D_law_feed (hr.mono (by decide)) hq (pa_cons (pv 0) pa_nil)))
      (pss_cons (ps_set (i := 2) nd rfl (Or.inl rfl) (pe_lst (pa_cons pe_non (pa_cons pe_bl (pa_cons pe_int (pa_cons pe_str (pa_cons pe_str (pa_cons pe_str (pa_cons pe_str (pa_cons pe_str (pa_cons pe_str (pa_cons (pe_tup pa_nil) (pa_cons (pe_tup (pa_cons (pe_tup pa_nil) pa_nil)) (pa_cons (pe_tup (pa_cons pe_int (pa_cons pe_int pa_nil))) (pa_cons (pe_tup (pa_cons pe_int (pa_cons (pe_un un_neg pe_int) pa_nil))) (pa_cons (pe_tup (pa_cons pe_bl (pa_cons pe_int pa_nil))) pa_nil))))))))))))))))
      (pss_cons (ps_expr (bmK K (pe_bm PySem.F.plainAttrs_list PySem.F.slot_list_append PySem.F.type_list_append mt_append (pv 2) (pa_cons (pe_tup (pa_cons pe_int (pa_cons pe_int (pa_cons pe_int pa_nil)))) pa_nil))))
      (pss_cons (ps_set (i := 2) nd rfl (Or.inl rfl) (pe_op op_cat (pv 2) (pe_lst (pa_cons (pe_lst (pa_cons pe_int (pa_cons pe_int pa_nil))) (pa_cons (pe_lst pa_nil) (pa_cons pe_dnewK (pa_cons (pe_tup (pa_cons (pe_tup (pa_cons pe_str (pa_cons (pe_tup pa_nil) pa_nil))) pa_nil)) (pa_cons (pe_tup (pa_cons pe_str (pa_cons (pe_tup pa_nil) pa_nil))) (pa_cons (pe_tup (pa_cons pe_str (pa_cons (pe_tup (pa_cons (pe_tup (pa_cons (pe_tup (pa_cons pe_int (pa_cons pe_int pa_nil))) (pa_cons pe_int pa_nil))) pa_nil)) pa_nil))) (pa_cons (pe_tup (pa_cons (pe_tup (pa_cons (pe_tup (pa_cons pe_int (pa_cons pe_int pa_nil))) (pa_cons pe_int pa_nil))) (pa_cons (pe_tup (pa_cons (pe_tup (pa_cons pe_int (pa_cons pe_int pa_nil))) (pa_cons pe_int pa_nil))) pa_nil))) pa_nil))))))))))
      (pss_cons (ps_set (i := 2) nd rfl (Or.inl rfl) (pe_op op_cat (pv 2) (pe_lst (pa_cons (pe_tup (pa_cons pe_str (pa_cons (pe_tup (pa_cons (pe_tup (pa_cons (pe_tup (pa_cons pe_int (pa_cons pe_int pa_nil))) (pa_cons pe_int pa_nil))) (pa_cons (pe_tup (pa_cons (pe_tup (pa_cons pe_int (pa_cons pe_int pa_nil))) (pa_cons pe_int pa_nil))) pa_nil))) pa_nil))) (pa_cons (pe_tup (pa_cons pe_str (pa_cons (pe_tup (pa_cons (pe_tup (pa_cons (pe_tup (pa_cons pe_int (pa_cons pe_int pa_nil))) (pa_cons pe_int pa_nil))) (pa_cons (pe_tup (pa_cons (pe_tup (pa_cons pe_int (pa_cons pe_int pa_nil))) (pa_cons pe_int pa_nil))) pa_nil))) pa_nil))) (pa_cons (pe_tup (pa_cons pe_str (pa_cons pe_str pa_nil))) pa_nil))))))
      (pss_cons (ps_set (i := 2) nd rfl (Or.inl rfl) (pe_op op_cat (pv 2) (pe_lst (pa_cons (pe_tup (pa_cons (pe_tup (pa_cons (pe_tup (pa_cons pe_int (pa_cons pe_int pa_nil))) (pa_cons pe_int pa_nil))) (pa_cons (pe_tup (pa_cons (pe_tup (pa_cons pe_int (pa_cons pe_int pa_nil))) (pa_cons pe_int pa_nil))) pa_nil))) (pa_cons (pe_tup (pa_cons pe_str (pa_cons (pe_tup (pa_cons (pe_tup (pa_cons (pe_tup (pa_cons pe_int (pa_cons pe_int pa_nil))) (pa_cons pe_int pa_nil))) pa_nil)) pa_nil))) (pa_cons (pe_tup (pa_cons pe_str (pa_cons (pe_lst (pa_cons (pe_tup (pa_cons (pe_tup (pa_cons pe_int (pa_cons pe_int pa_nil))) (pa_cons pe_int pa_nil))) pa_nil)) pa_nil))) (pa_cons (pe_lst (pa_cons pe_str (pa_cons (pe_tup (pa_cons (pe_tup (pa_cons (pe_tup (pa_cons pe_int (pa_cons pe_int pa_nil))) (pa_cons pe_int pa_nil))) pa_nil)) pa_nil))) pa_nil)))))))
      (pss_cons (ps_set (i := 2) nd rfl (Or.inl rfl) (pe_op op_cat (pv 2) (pe_lst (pa_cons (pe_tup (pa_cons (pe_tup (pa_cons (pe_tup (pa_cons pe_int (pa_cons pe_int pa_nil))) (pa_cons pe_bl pa_nil))) pa_nil)) (pa_cons (pe_tup (pa_cons (pe_tup (pa_cons (pe_tup (pa_cons pe_int (pa_cons pe_int pa_nil))) (pa_cons pe_non pa_nil))) pa_nil)) pa_nil)))))
      (pss_cons (ps_if (pt_cmpR (neEK K hr.units) (pe_lc (own := [("_law_it", 6)]) (g := gName 6) rfl nd (piL K (pi_list (pv 2))) (blkOk_by (own := [("_law_it", 6)]) (N := N_law) (sc := defScope s_law) (by decide +kernel)) (fun _ _ _ _ _ => (pg_name (i := 6) nd rfl (by first | exact Or.inl rfl | exact Or.inr rfl))) (fun _ _ _ _ _ => (pts_one (pt_not (pt_val (pe_c D_law_right (hr.mono (by decide)) hq (pa_cons (pv 6) pa_nil)))))) (fun _ _ _ _ _ => (pv 6))) (pe_lst pa_nil) (nomark _)) (pss_one (ps_ret pe_bl)) pss_nil)
      (pss_cons (ps_for PassesOwn.never rfl (pi_range1 (by rfl) z_range (pa_cons pe_int pa_nil)) (pg_name (i := 3) nd rfl (Or.inl rfl))
        (pss_cons (ps_par (i := 9) (j := 10) (by rfl) nd rfl rfl (by decide) rfl rfl (pa_cons (pe_c D_law_made (hr.mono (by decide)) hq (pa_cons (pv 1) pa_nil)) (pa_cons (pe_c D_law_word (hr.mono (by decide)) hq (pa_cons (pv 1) pa_nil)) pa_nil)) (by rfl))
        (pss_cons (ps_set (i := 5) nd rfl (Or.inl rfl) (pe_lst (pa_cons (pe_tup (pa_cons (pe_c D_law_number (hr.mono (by decide)) hq (pa_cons (pv 1) pa_nil)) (pa_cons (pe_c D_law_number (hr.mono (by decide)) hq (pa_cons (pv 1) pa_nil)) pa_nil))) (pa_cons (pv 9) (pa_cons (pv 10) (pa_cons (pe_tup (pa_cons (pv 10) (pa_cons (pv 9) pa_nil))) (pa_cons (pe_tup (pa_cons (pv 10) (pa_cons (pe_slice (slTK K) (pv 9) po_none (po_some pe_int)) pa_nil))) pa_nil)))))))
        (pss_one (ps_for PassesOwn.never rfl (piL K (pi_list (pv 5))) (pg_name (i := 6) nd rfl (Or.inr rfl))
          (pss_cons (ps_setLc (i := 11) (own := [("_law_k", 13)]) (g := gName 13) rfl nd rfl rfl (sw_true rfl rfl rfl (by decide +kernel)) (pi_range1 (by rfl) z_range (pa_cons pe_int pa_nil)) (blkOk_by (own := [("_law_k", 13)]) (N := N_law) (sc := defScope s_law) (by decide +kernel)) (fun _ _ _ _ _ => (pg_name (i := 13) nd rfl (by first | exact Or.inl rfl | exact Or.inr rfl))) (fun _ _ _ _ _ => pts_nil) (fun _ _ _ _ _ => (pe_c D_law_bent4 (hr.mono (by decide)) hq (pa_cons (pv 1) (pa_cons (pv 6) pa_nil)))))
          (pss_one (ps_for PassesOwn.never rfl (piL K (pi_list (pe_op op_cat (pe_op op_cat (pe_lst (pa_cons (pv 6) pa_nil)) (pv 11)) (pe_lst (pa_cons (pe_c D_law_bent6 (hr.mono (by decide)) hq (pa_cons (pv 1) (pa_cons (pe_ix (ixLK K) (pv 11) pe_int (fun _ _ => rfl)) pa_nil))) (pa_cons (pe_c D_law_bent6 (hr.mono (by decide)) hq (pa_cons (pv 1) (pa_cons (pe_ix (ixLK K) (pv 11) pe_int (fun _ _ => rfl)) pa_nil))) pa_nil)))))) (pg_name (i := 12) nd rfl (Or.inl rfl))
            (pss_one (ps_if (pt_not (pt_val (pe_c D_law_right (hr.mono (by decide)) hq (pa_cons (pv 12) pa_nil)))) (pss_one (ps_ret pe_bl)) pss_nil))))))))))
      (pss_cons (ps_par (i := 7) (j := 8) (by rfl) nd rfl rfl (by decide) rfl rfl (pa_cons (pe_c D_law_great (hr.mono (by decide)) hq (pa_cons (pv 1) pa_nil)) (pa_cons (pe_c D_law_take (hr.mono (by decide)) hq (pa_cons (pv 1) (pa_cons pe_int pa_nil))) pa_nil)) (by rfl))
      (pss_cons (ps_set (i := 4) nd rfl (Or.inl rfl) (pe_op (catTK K) (pe_op (catTK K) (pe_slice (slTK K) (pv 7) po_none (po_some (pv 8))) (pe_tup (pa_cons (pe_ix (ixTK K) (pv 7) (pe_op op_add (pv 8) pe_int) (fun _ _ => rfl)) (pa_cons (pe_ix (ixTK K) (pv 7) (pv 8) (fun _ _ => rfl)) pa_nil)))) (pe_slice (slTK K) (pv 7) (po_some (pe_op op_add (pv 8) pe_int)) po_none)))
      (pss_one (ps_ret (pe_cmpR (eqEK K hr.units) (pe_lc (own := [("_law_it", 6)]) (g := gName 6) rfl nd (piL K (pi_list (pe_lst (pa_cons (pv 7) (pa_cons (pv 4) (pa_cons (pe_tup (pa_cons pe_str (pa_cons (pv 7) pa_nil))) (pa_cons (pe_tup (pa_cons pe_str (pa_cons (pv 4) pa_nil))) pa_nil))))))) (blkOk_by (own := [("_law_it", 6)]) (N := N_law) (sc := defScope s_law) (by decide +kernel)) (fun _ _ _ _ _ => (pg_name (i := 6) nd rfl (by first | exact Or.inl rfl | exact Or.inr rfl))) (fun _ _ _ _ _ => (pts_one (pt_not (pt_val (pe_c D_law_right (hr.mono (by decide)) hq (pa_cons (pv 6) pa_nil)))))) (fun _ _ _ _ _ => (pv 6))) (pe_lst pa_nil) (nomark _))))))))))))))), ?_⟩
    have e0 : L2.start N_law [V.ref a] = [some (V.ref a), none, none, none, none, none, none, none, none, none, none, none, none, none] := rfl
    rw [e0]
    clear e0
    refine seqSet ?_
    refine ⟨_, rfl, a, ns, rfl, ha, hn, fun p l H1 s1 np nl hF => ?_⟩
    have hS := hS2 hF
    have s0 : Same H1 H1 := Same.refl H1
    refine seqSet ?_
    refine LitA.list' (K := K) (S := [p, l]) (H0 := H1) (ds := litA) ?_ s0 (by decide) ?_
    · exact (.cons .non (.cons .bl (.cons .int (.cons .str (.cons .str (.cons .str (.cons .str (.cons .str (.cons .str (.cons (.tup hS .nil) (.cons (.tup hS (.cons (.tup hS .nil) .nil)) (.cons (.tup hS (.cons .int (.cons .int .nil))) (.cons (.tup hS (.cons .int (.cons .neg .nil))) (.cons (.tup hS (.cons .bl (.cons .int .nil))) .nil))))))))))))))
    · intro q1 xs1 H2 s2 hq1 g1 d1
      have nq1 := fresh hF hq1
      have f2 := hF.same s2
      refine ⟨_, rfl, .inl ⟨rfl, _, .inl (.inl g1)⟩, line _ (Nat.le_of_ble_eq_true rfl), fun u hu => ?_⟩
      have hu1 : u ≠ q1 := fun e => by rw [e, g1] at hu; cases hu
      have g1' : upd H2 u (.tup [.int 0, .int 0, .int 0]) q1 = some (.lst xs1) := by rw [upd_ne (Ne.symm hu1)]; exact g1
      refine ⟨q1, xs1, _, rfl, rfl, g1', ltline _ (by rw [d1.len]; decide), ?_⟩
      have nu := fresh f2 hu
      obtain ⟨H3, hH3⟩ : ∃ H3, H3 = upd (upd H2 u (.tup [.int 0, .int 0, .int 0])) q1 (.lst (xs1 ++ [V.ref u])) := ⟨_, rfl⟩
      rw [← hH3]
      have s3 : Same H1 H3 := by
        intro b o e
        rw [hH3, upd_ne (ne_of_none e hq1), upd_ne (ne_of_none (s2 _ _ e) hu)]
        exact s2 _ _ e
      have g3 : H3 q1 = some (.lst (xs1 ++ [V.ref u])) := by rw [hH3, upd_same]
      have d3 : DxAll K (off [p, l] H3) (xs1 ++ [V.ref u]) (litA ++ [.tuple [.int 0, .int 0, .int 0]]) := by
        have eo : off [q1, p, l] H3 = off [q1, p, l] (upd H2 u (.tup [.int 0, .int 0, .int 0])) := by rw [hH3, off_upd (by simp)]
        have dd : DxAll K (off [q1, p, l] H3) (xs1 ++ [V.ref u]) (litA ++ [.tuple [.int 0, .int 0, .int 0]]) := by
          rw [eo]
          refine (d1.sub (off_same (same_upd hu))).app (.cons (.tup (.inl (.inl (off_of ?_ upd_same))) (.cons (.int _) (.cons (.int _) (.cons (.int _) .nil)))) .nil)
          simp [hu1, nu.1, nu.2]
        exact dd.sub (off_less _ (fun b hb => List.mem_cons_of_mem _ hb))
      dsimp only
      refine seqSet ?_
      refine LitA.cat (K := K) (S := [p, l]) (H0 := H1) (ds := litB) hS ?_ s3 (by decide) rfl g3 d3 (by decide) ?_
      · exact (.cons (.lst hS (.cons .int (.cons .int .nil))) (.cons (.lst hS .nil) (.cons (.dict0 hS) (.cons (.tup hS (.cons (.tup hS (.cons .str (.cons (.tup hS .nil) .nil))) .nil)) (.cons (.tup hS (.cons .str (.cons (.tup hS .nil) .nil))) (.cons (.tup hS (.cons .str (.cons (.tup hS (.cons (.tup hS (.cons (.tup hS (.cons .int (.cons .int .nil))) (.cons .int .nil))) .nil)) .nil))) (.cons (.tup hS (.cons (.tup hS (.cons (.tup hS (.cons .int (.cons .int .nil))) (.cons .int .nil))) (.cons (.tup hS (.cons (.tup hS (.cons .int (.cons .int .nil))) (.cons .int .nil))) .nil))) .nil)))))))
      · intro q4 xs4 H4 s4 hq4 g4 d4
        refine seqSet ?_
        refine LitA.cat (K := K) (S := [p, l]) (H0 := H1) (ds := litC) hS ?_ (s3.trans s4) (by decide) rfl g4 d4 (by decide) ?_
        · exact (.cons (.tup hS (.cons .str (.cons (.tup hS (.cons (.tup hS (.cons (.tup hS (.cons .int (.cons .int .nil))) (.cons .int .nil))) (.cons (.tup hS (.cons (.tup hS (.cons .int (.cons .int .nil))) (.cons .int .nil))) .nil))) .nil))) (.cons (.tup hS (.cons .str (.cons (.tup hS (.cons (.tup hS (.cons (.tup hS (.cons .int (.cons .int .nil))) (.cons .int .nil))) (.cons (.tup hS (.cons (.tup hS (.cons .int (.cons .int .nil))) (.cons .int .nil))) .nil))) .nil))) (.cons (.tup hS (.cons .str (.cons .str .nil))) .nil)))
        · intro q5 xs5 H5 s5 hq5 g5 d5
          refine seqSet ?_
          refine LitA.cat (K := K) (S := [p, l]) (H0 := H1) (ds := litD) hS ?_ ((s3.trans s4).trans s5) (by decide) rfl g5 d5 (by decide) ?_
          · exact (.cons (.tup hS (.cons (.tup hS (.cons (.tup hS (.cons .int (.cons .int .nil))) (.cons .int .nil))) (.cons (.tup hS (.cons (.tup hS (.cons .int (.cons .int .nil))) (.cons .int .nil))) .nil))) (.cons (.tup hS (.cons .str (.cons (.tup hS (.cons (.tup hS (.cons (.tup hS (.cons .int (.cons .int .nil))) (.cons .int .nil))) .nil)) .nil))) (.cons (.tup hS (.cons .str (.cons (.lst hS (.cons (.tup hS (.cons (.tup hS (.cons .int (.cons .int .nil))) (.cons .int .nil))) .nil)) .nil))) (.cons (.lst hS (.cons .str (.cons (.tup hS (.cons (.tup hS (.cons (.tup hS (.cons .int (.cons .int .nil))) (.cons .int .nil))) .nil)) .nil))) .nil))))
          · intro q6 xs6 H6 s6 hq6 g6 d6
            refine seqSet ?_
            refine LitA.cat (K := K) (S := [p, l]) (H0 := H1) (ds := litE) hS ?_ (((s3.trans s4).trans s5).trans s6) (by decide) rfl g6 d6 (by decide) ?_
            · exact (.cons (.tup hS (.cons (.tup hS (.cons (.tup hS (.cons .int (.cons .int .nil))) (.cons .bl .nil))) .nil)) (.cons (.tup hS (.cons (.tup hS (.cons (.tup hS (.cons .int (.cons .int .nil))) (.cons .non .nil))) .nil)) .nil))
            · intro q7 xs7 H7 s7 hq7 g7 d7
              have s17 := (((s3.trans s4).trans s5).trans s6).trans s7
              have f7 := hF.same s17
              clear d1 d3 d4 d5 d6 g1 g1' g3 g4 g5 g6
              refine ne_right (by simp) rfl g7 (d7.sub (off_sub _ _)) lits_gd fun H9 s9 => ?_
              refine iteF ?_
              have f9 := f7.same s9
              clear s1 d7 g7
              have shL : Sh p ((((((([some (V.ref a), none, none, none, none, none, none, none, none, none, none, none, none, none] : L2.St).set 1 (some (V.ref p))).set 2 (some (V.ref q1))).set 2 (some (V.ref q4))).set 2 (some (V.ref q5))).set 2 (some (V.ref q6))).set 2 (some (V.ref q7))) := ⟨by simp, rfl⟩
              generalize ((((((([some (V.ref a), none, none, none, none, none, none, none, none, none, none, none, none, none] : L2.St).set 1 (some (V.ref p))).set 2 (some (V.ref q1))).set 2 (some (V.ref q4))).set 2 (some (V.ref q5))).set 2 (some (V.ref q6))).set 2 (some (V.ref q7))) = τ at shL ⊢
              dsimp only [tNext]
              refine ⟨6, rfl, by decide, by decide, ?_⟩
              change Loop _ _ _ _ _ _
              refine Loop.range (fun i τ' G => ∃ ni, Sh p τ' ∧ Feed G p l ni ∧ ni ≤ 900 * i) ⟨0, shL, f9, by omega⟩ ?_ ?_
              · rintro i τ' G hi ⟨ni, shτ, fG, hni⟩
                have i6 : i < 6 := hi
                exact turn_ok (shτ.put (by decide)) fG (by omega) fun σ' H' n' sh' f' hn' _ => ⟨n', sh', f', by omega⟩
              · rintro τ' G ⟨ni, shτ, fG, hni⟩
                have hni' : ni ≤ 900 * 6 := hni
                exact end_ok shτ fG (by omega) fun G' => k G'
end
end C02
namespace C02
open PySem PySem.Spec PyProof.Rows L2 Lay M02
section
variable {P : Program} {w : World} {K : PySem.W.Frag} {mg : Str → Option Value} {base : Heap} {f : Addr} {fd : FuncData} {ps : List Str} {k m : Nat}
theorem less_of (F : FnG P w K mg base CX0 k f fd ps (sp_bent K m)) : FnG P w K mg base CX0 k f fd ps (sp_less K (m + 1)) where
  len := by
    rintro zs G R Z ⟨m', e, h⟩
    obtain rfl : m = m' := by omega
    exact F.len _ _ _ _ h
  run := by
    rintro A out t G ar ws zs R Z hr hq he hb hv ⟨m', e, h⟩
    obtain rfl : m = m' := by omega
    exact F.run A out t G ar ws zs R Z hr hq he hb hv h
theorem less_none : FnG P w K mg base CX0 k f fd ps (sp_less K 0) where
  len := by
    rintro zs G R Z ⟨m', e, h⟩
    omega
  run := by
    rintro A out t G ar ws zs R Z hr hq he hb hv ⟨m', e, h⟩
    omega
end
theorem all_mk {l : PySem.W.OpenLaw} {w : World} {K : PySem.W.Frag} {h : Heap} {mg : Str → Option Value} {fa : Addr} (X : K.In h) (G : h.Ns mainGlobals mg)
    (hfa : mg "law" = some (.ref fa))
    {f_is_int : Addr} {od_is_int an_is_int : Option Addr} {sl_is_int : Array (Option Value)} {oc_is_int kV_is_int dc_is_int pm_is_int cd_is_int ct_is_int : Value}
    (a_is_int : PySem.W.nsIn K mainGlobals "is_int" = some (some (.ref f_is_int)))
    (l_is_int : K.lookup f_is_int = some ⟨oc_is_int, od_is_int, .func (PySem.W.fnOf "is_int" "is_int" (defArgs s_is_int) (defBody s_is_int) (defScope s_is_int) .none kV_is_int dc_is_int pm_is_int an_is_int cd_is_int ct_is_int), sl_is_int⟩)
    (c_is_int : PySem.W.codeIn K cd_is_int "is_int" = true) (k_is_int : PySem.W.keepIn K (.ref f_is_int) = true)
    {f_is_pair : Addr} {od_is_pair an_is_pair : Option Addr} {sl_is_pair : Array (Option Value)} {oc_is_pair kV_is_pair dc_is_pair pm_is_pair cd_is_pair ct_is_pair : Value}
    (a_is_pair : PySem.W.nsIn K mainGlobals "is_pair" = some (some (.ref f_is_pair)))
    (l_is_pair : K.lookup f_is_pair = some ⟨oc_is_pair, od_is_pair, .func (PySem.W.fnOf "is_pair" "is_pair" (defArgs s_is_pair) (defBody s_is_pair) (defScope s_is_pair) .none kV_is_pair dc_is_pair pm_is_pair an_is_pair cd_is_pair ct_is_pair), sl_is_pair⟩)
    (c_is_pair : PySem.W.codeIn K cd_is_pair "is_pair" = true) (k_is_pair : PySem.W.keepIn K (.ref f_is_pair) = true)
    {f_is_cell : Addr} {od_is_cell an_is_cell : Option Addr} {sl_is_cell : Array (Option Value)} {oc_is_cell kV_is_cell dc_is_cell pm_is_cell cd_is_cell ct_is_cell : Value}
    (a_is_cell : PySem.W.nsIn K mainGlobals "is_cell" = some (some (.ref f_is_cell)))
    (l_is_cell : K.lookup f_is_cell = some ⟨oc_is_cell, od_is_cell, .func (PySem.W.fnOf "is_cell" "is_cell" (defArgs s_is_cell) (defBody s_is_cell) (defScope s_is_cell) .none kV_is_cell dc_is_cell pm_is_cell an_is_cell cd_is_cell ct_is_cell), sl_is_cell⟩)
    (c_is_cell : PySem.W.codeIn K cd_is_cell "is_cell" = true) (k_is_cell : PySem.W.keepIn K (.ref f_is_cell) = true)
    {f_is_write : Addr} {od_is_write an_is_write : Option Addr} {sl_is_write : Array (Option Value)} {oc_is_write kV_is_write dc_is_write pm_is_write cd_is_write ct_is_write : Value}
    (a_is_write : PySem.W.nsIn K mainGlobals "is_write" = some (some (.ref f_is_write)))
    (l_is_write : K.lookup f_is_write = some ⟨oc_is_write, od_is_write, .func (PySem.W.fnOf "is_write" "is_write" (defArgs s_is_write) (defBody s_is_write) (defScope s_is_write) .none kV_is_write dc_is_write pm_is_write an_is_write cd_is_write ct_is_write), sl_is_write⟩)
    (c_is_write : PySem.W.codeIn K cd_is_write "is_write" = true) (k_is_write : PySem.W.keepIn K (.ref f_is_write) = true)
    {f_is_name : Addr} {od_is_name an_is_name : Option Addr} {sl_is_name : Array (Option Value)} {oc_is_name kV_is_name dc_is_name pm_is_name cd_is_name ct_is_name : Value}
    (a_is_name : PySem.W.nsIn K mainGlobals "is_name" = some (some (.ref f_is_name)))
    (l_is_name : K.lookup f_is_name = some ⟨oc_is_name, od_is_name, .func (PySem.W.fnOf "is_name" "is_name" (defArgs s_is_name) (defBody s_is_name) (defScope s_is_name) .none kV_is_name dc_is_name pm_is_name an_is_name cd_is_name ct_is_name), sl_is_name⟩)
    (c_is_name : PySem.W.codeIn K cd_is_name "is_name" = true) (k_is_name : PySem.W.keepIn K (.ref f_is_name) = true)
    {f_is_content : Addr} {od_is_content an_is_content : Option Addr} {sl_is_content : Array (Option Value)} {oc_is_content kV_is_content dc_is_content pm_is_content cd_is_content ct_is_content : Value}
    (a_is_content : PySem.W.nsIn K mainGlobals "is_content" = some (some (.ref f_is_content)))
    (l_is_content : K.lookup f_is_content = some ⟨oc_is_content, od_is_content, .func (PySem.W.fnOf "is_content" "is_content" (defArgs s_is_content) (defBody s_is_content) (defScope s_is_content) .none kV_is_content dc_is_content pm_is_content an_is_content cd_is_content ct_is_content), sl_is_content⟩)
    (c_is_content : PySem.W.codeIn K cd_is_content "is_content" = true) (k_is_content : PySem.W.keepIn K (.ref f_is_content) = true)
    {f_is_change : Addr} {od_is_change an_is_change : Option Addr} {sl_is_change : Array (Option Value)} {oc_is_change kV_is_change dc_is_change pm_is_change cd_is_change ct_is_change : Value}
    (a_is_change : PySem.W.nsIn K mainGlobals "is_change" = some (some (.ref f_is_change)))
    (l_is_change : K.lookup f_is_change = some ⟨oc_is_change, od_is_change, .func (PySem.W.fnOf "is_change" "is_change" (defArgs s_is_change) (defBody s_is_change) (defScope s_is_change) .none kV_is_change dc_is_change pm_is_change an_is_change cd_is_change ct_is_change), sl_is_change⟩)
    (c_is_change : PySem.W.codeIn K cd_is_change "is_change" = true) (k_is_change : PySem.W.keepIn K (.ref f_is_change) = true)
    {f_law_whole : Addr} {od_law_whole an_law_whole : Option Addr} {sl_law_whole : Array (Option Value)} {oc_law_whole kV_law_whole dc_law_whole pm_law_whole cd_law_whole ct_law_whole : Value}
    (a_law_whole : PySem.W.nsIn K mainGlobals "_law_whole" = some (some (.ref f_law_whole)))
    (l_law_whole : K.lookup f_law_whole = some ⟨oc_law_whole, od_law_whole, .func (PySem.W.fnOf "_law_whole" "_law_whole" (defArgs s_law_whole) (defBody s_law_whole) (defScope s_law_whole) .none kV_law_whole dc_law_whole pm_law_whole an_law_whole cd_law_whole ct_law_whole), sl_law_whole⟩)
    (c_law_whole : PySem.W.codeIn K cd_law_whole "_law_whole" = true) (k_law_whole : PySem.W.keepIn K (.ref f_law_whole) = true)
    {f_law_is_cell : Addr} {od_law_is_cell an_law_is_cell : Option Addr} {sl_law_is_cell : Array (Option Value)} {oc_law_is_cell kV_law_is_cell dc_law_is_cell pm_law_is_cell cd_law_is_cell ct_law_is_cell : Value}
    (a_law_is_cell : PySem.W.nsIn K mainGlobals "_law_is_cell" = some (some (.ref f_law_is_cell)))
    (l_law_is_cell : K.lookup f_law_is_cell = some ⟨oc_law_is_cell, od_law_is_cell, .func (PySem.W.fnOf "_law_is_cell" "_law_is_cell" (defArgs s_law_is_cell) (defBody s_law_is_cell) (defScope s_law_is_cell) .none kV_law_is_cell dc_law_is_cell pm_law_is_cell an_law_is_cell cd_law_is_cell ct_law_is_cell), sl_law_is_cell⟩)
    (c_law_is_cell : PySem.W.codeIn K cd_law_is_cell "_law_is_cell" = true) (k_law_is_cell : PySem.W.keepIn K (.ref f_law_is_cell) = true)
    {f_law_is_content : Addr} {od_law_is_content an_law_is_content : Option Addr} {sl_law_is_content : Array (Option Value)} {oc_law_is_content kV_law_is_content dc_law_is_content pm_law_is_content cd_law_is_content ct_law_is_content : Value}
    (a_law_is_content : PySem.W.nsIn K mainGlobals "_law_is_content" = some (some (.ref f_law_is_content)))
    (l_law_is_content : K.lookup f_law_is_content = some ⟨oc_law_is_content, od_law_is_content, .func (PySem.W.fnOf "_law_is_content" "_law_is_content" (defArgs s_law_is_content) (defBody s_law_is_content) (defScope s_law_is_content) .none kV_law_is_content dc_law_is_content pm_law_is_content an_law_is_content cd_law_is_content ct_law_is_content), sl_law_is_content⟩)
    (c_law_is_content : PySem.W.codeIn K cd_law_is_content "_law_is_content" = true) (k_law_is_content : PySem.W.keepIn K (.ref f_law_is_content) = true)
    {f_law_is_name : Addr} {od_law_is_name an_law_is_name : Option Addr} {sl_law_is_name : Array (Option Value)} {oc_law_is_name kV_law_is_name dc_law_is_name pm_law_is_name cd_law_is_name ct_law_is_name : Value}
    (a_law_is_name : PySem.W.nsIn K mainGlobals "_law_is_name" = some (some (.ref f_law_is_name)))
    (l_law_is_name : K.lookup f_law_is_name = some ⟨oc_law_is_name, od_law_is_name, .func (PySem.W.fnOf "_law_is_name" "_law_is_name" (defArgs s_law_is_name) (defBody s_law_is_name) (defScope s_law_is_name) .none kV_law_is_name dc_law_is_name pm_law_is_name an_law_is_name cd_law_is_name ct_law_is_name), sl_law_is_name⟩)
    (c_law_is_name : PySem.W.codeIn K cd_law_is_name "_law_is_name" = true) (k_law_is_name : PySem.W.keepIn K (.ref f_law_is_name) = true)
    {f_law_is_change : Addr} {od_law_is_change an_law_is_change : Option Addr} {sl_law_is_change : Array (Option Value)} {oc_law_is_change kV_law_is_change dc_law_is_change pm_law_is_change cd_law_is_change ct_law_is_change : Value}
    (a_law_is_change : PySem.W.nsIn K mainGlobals "_law_is_change" = some (some (.ref f_law_is_change)))
    (l_law_is_change : K.lookup f_law_is_change = some ⟨oc_law_is_change, od_law_is_change, .func (PySem.W.fnOf "_law_is_change" "_law_is_change" (defArgs s_law_is_change) (defBody s_law_is_change) (defScope s_law_is_change) .none kV_law_is_change dc_law_is_change pm_law_is_change an_law_is_change cd_law_is_change ct_law_is_change), sl_law_is_change⟩)
    (c_law_is_change : PySem.W.codeIn K cd_law_is_change "_law_is_change" = true) (k_law_is_change : PySem.W.keepIn K (.ref f_law_is_change) = true)
    {f_law_right : Addr} {od_law_right an_law_right : Option Addr} {sl_law_right : Array (Option Value)} {oc_law_right kV_law_right dc_law_right pm_law_right cd_law_right ct_law_right : Value}
    (a_law_right : PySem.W.nsIn K mainGlobals "_law_right" = some (some (.ref f_law_right)))
    (l_law_right : K.lookup f_law_right = some ⟨oc_law_right, od_law_right, .func (PySem.W.fnOf "_law_right" "_law_right" (defArgs s_law_right) (defBody s_law_right) (defScope s_law_right) .none kV_law_right dc_law_right pm_law_right an_law_right cd_law_right ct_law_right), sl_law_right⟩)
    (c_law_right : PySem.W.codeIn K cd_law_right "_law_right" = true) (k_law_right : PySem.W.keepIn K (.ref f_law_right) = true)
    {f_law_feed : Addr} {od_law_feed an_law_feed : Option Addr} {sl_law_feed : Array (Option Value)} {oc_law_feed kV_law_feed dc_law_feed pm_law_feed cd_law_feed ct_law_feed : Value}
    (a_law_feed : PySem.W.nsIn K mainGlobals "_law_feed" = some (some (.ref f_law_feed)))
    (l_law_feed : K.lookup f_law_feed = some ⟨oc_law_feed, od_law_feed, .func (PySem.W.fnOf "_law_feed" "_law_feed" (defArgs s_law_feed) (defBody s_law_feed) (defScope s_law_feed) .none kV_law_feed dc_law_feed pm_law_feed an_law_feed cd_law_feed ct_law_feed), sl_law_feed⟩)
    (c_law_feed : PySem.W.codeIn K cd_law_feed "_law_feed" = true) (k_law_feed : PySem.W.keepIn K (.ref f_law_feed) = true)
    {f_law_take : Addr} {od_law_take an_law_take : Option Addr} {sl_law_take : Array (Option Value)} {oc_law_take kV_law_take dc_law_take pm_law_take cd_law_take ct_law_take : Value}
    (a_law_take : PySem.W.nsIn K mainGlobals "_law_take" = some (some (.ref f_law_take)))
    (l_law_take : K.lookup f_law_take = some ⟨oc_law_take, od_law_take, .func (PySem.W.fnOf "_law_take" "_law_take" (defArgs s_law_take) (defBody s_law_take) (defScope s_law_take) .none kV_law_take dc_law_take pm_law_take an_law_take cd_law_take ct_law_take), sl_law_take⟩)
    (c_law_take : PySem.W.codeIn K cd_law_take "_law_take" = true) (k_law_take : PySem.W.keepIn K (.ref f_law_take) = true)
    {f_law_one : Addr} {od_law_one an_law_one : Option Addr} {sl_law_one : Array (Option Value)} {oc_law_one kV_law_one dc_law_one pm_law_one cd_law_one ct_law_one : Value}
    (a_law_one : PySem.W.nsIn K mainGlobals "_law_one" = some (some (.ref f_law_one)))
    (l_law_one : K.lookup f_law_one = some ⟨oc_law_one, od_law_one, .func (PySem.W.fnOf "_law_one" "_law_one" (defArgs s_law_one) (defBody s_law_one) (defScope s_law_one) .none kV_law_one dc_law_one pm_law_one an_law_one cd_law_one ct_law_one), sl_law_one⟩)
    (c_law_one : PySem.W.codeIn K cd_law_one "_law_one" = true) (k_law_one : PySem.W.keepIn K (.ref f_law_one) = true)
    {f_law_number : Addr} {od_law_number an_law_number : Option Addr} {sl_law_number : Array (Option Value)} {oc_law_number kV_law_number dc_law_number pm_law_number cd_law_number ct_law_number : Value}
    (a_law_number : PySem.W.nsIn K mainGlobals "_law_number" = some (some (.ref f_law_number)))
    (l_law_number : K.lookup f_law_number = some ⟨oc_law_number, od_law_number, .func (PySem.W.fnOf "_law_number" "_law_number" (defArgs s_law_number) (defBody s_law_number) (defScope s_law_number) .none kV_law_number dc_law_number pm_law_number an_law_number cd_law_number ct_law_number), sl_law_number⟩)
    (c_law_number : PySem.W.codeIn K cd_law_number "_law_number" = true) (k_law_number : PySem.W.keepIn K (.ref f_law_number) = true)
    {f_law_cells : Addr} {od_law_cells an_law_cells : Option Addr} {sl_law_cells : Array (Option Value)} {oc_law_cells kV_law_cells dc_law_cells pm_law_cells cd_law_cells ct_law_cells : Value}
    (a_law_cells : PySem.W.nsIn K mainGlobals "_law_cells" = some (some (.ref f_law_cells)))
    (l_law_cells : K.lookup f_law_cells = some ⟨oc_law_cells, od_law_cells, .func (PySem.W.fnOf "_law_cells" "_law_cells" (defArgs s_law_cells) (defBody s_law_cells) (defScope s_law_cells) .none kV_law_cells dc_law_cells pm_law_cells an_law_cells cd_law_cells ct_law_cells), sl_law_cells⟩)
    (c_law_cells : PySem.W.codeIn K cd_law_cells "_law_cells" = true) (k_law_cells : PySem.W.keepIn K (.ref f_law_cells) = true)
    {f_law_made : Addr} {od_law_made an_law_made : Option Addr} {sl_law_made : Array (Option Value)} {oc_law_made kV_law_made dc_law_made pm_law_made cd_law_made ct_law_made : Value}
    (a_law_made : PySem.W.nsIn K mainGlobals "_law_made" = some (some (.ref f_law_made)))
    (l_law_made : K.lookup f_law_made = some ⟨oc_law_made, od_law_made, .func (PySem.W.fnOf "_law_made" "_law_made" (defArgs s_law_made) (defBody s_law_made) (defScope s_law_made) .none kV_law_made dc_law_made pm_law_made an_law_made cd_law_made ct_law_made), sl_law_made⟩)
    (c_law_made : PySem.W.codeIn K cd_law_made "_law_made" = true) (k_law_made : PySem.W.keepIn K (.ref f_law_made) = true)
    {f_law_word : Addr} {od_law_word an_law_word : Option Addr} {sl_law_word : Array (Option Value)} {oc_law_word kV_law_word dc_law_word pm_law_word cd_law_word ct_law_word : Value}
    (a_law_word : PySem.W.nsIn K mainGlobals "_law_word" = some (some (.ref f_law_word)))
    (l_law_word : K.lookup f_law_word = some ⟨oc_law_word, od_law_word, .func (PySem.W.fnOf "_law_word" "_law_word" (defArgs s_law_word) (defBody s_law_word) (defScope s_law_word) .none kV_law_word dc_law_word pm_law_word an_law_word cd_law_word ct_law_word), sl_law_word⟩)
    (c_law_word : PySem.W.codeIn K cd_law_word "_law_word" = true) (k_law_word : PySem.W.keepIn K (.ref f_law_word) = true)
    {f_law_odd : Addr} {od_law_odd an_law_odd : Option Addr} {sl_law_odd : Array (Option Value)} {oc_law_odd kV_law_odd dc_law_odd pm_law_odd cd_law_odd ct_law_odd : Value}
    (a_law_odd : PySem.W.nsIn K mainGlobals "_law_odd" = some (some (.ref f_law_odd)))
    (l_law_odd : K.lookup f_law_odd = some ⟨oc_law_odd, od_law_odd, .func (PySem.W.fnOf "_law_odd" "_law_odd" (defArgs s_law_odd) (defBody s_law_odd) (defScope s_law_odd) .none kV_law_odd dc_law_odd pm_law_odd an_law_odd cd_law_odd ct_law_odd), sl_law_odd⟩)
    (c_law_odd : PySem.W.codeIn K cd_law_odd "_law_odd" = true) (k_law_odd : PySem.W.keepIn K (.ref f_law_odd) = true)
    {f_law_bent : Addr} {od_law_bent an_law_bent : Option Addr} {sl_law_bent : Array (Option Value)} {oc_law_bent kV_law_bent dc_law_bent pm_law_bent cd_law_bent ct_law_bent : Value}
    (a_law_bent : PySem.W.nsIn K mainGlobals "_law_bent" = some (some (.ref f_law_bent)))
    (l_law_bent : K.lookup f_law_bent = some ⟨oc_law_bent, od_law_bent, .func (PySem.W.fnOf "_law_bent" "_law_bent" (defArgs s_law_bent) (defBody s_law_bent) (defScope s_law_bent) .none kV_law_bent dc_law_bent pm_law_bent an_law_bent cd_law_bent ct_law_bent), sl_law_bent⟩)
    (c_law_bent : PySem.W.codeIn K cd_law_bent "_law_bent" = true) (k_law_bent : PySem.W.keepIn K (.ref f_law_bent) = true)
    {f_law_great : Addr} {od_law_great an_law_great : Option Addr} {sl_law_great : Array (Option Value)} {oc_law_great kV_law_great dc_law_great pm_law_great cd_law_great ct_law_great : Value}
    (a_law_great : PySem.W.nsIn K mainGlobals "_law_great" = some (some (.ref f_law_great)))
    (l_law_great : K.lookup f_law_great = some ⟨oc_law_great, od_law_great, .func (PySem.W.fnOf "_law_great" "_law_great" (defArgs s_law_great) (defBody s_law_great) (defScope s_law_great) .none kV_law_great dc_law_great pm_law_great an_law_great cd_law_great ct_law_great), sl_law_great⟩)
    (c_law_great : PySem.W.codeIn K cd_law_great "_law_great" = true) (k_law_great : PySem.W.keepIn K (.ref f_law_great) = true)
    {f_law : Addr} {od_law an_law : Option Addr} {sl_law : Array (Option Value)} {oc_law kV_law dc_law pm_law cd_law ct_law : Value}
    (a_law : PySem.W.nsIn K mainGlobals "law" = some (some (.ref f_law)))
    (l_law : K.lookup f_law = some ⟨oc_law, od_law, .func (PySem.W.fnOf "law" "law" (defArgs s_law) (defBody s_law) (defScope s_law) .none kV_law dc_law pm_law an_law cd_law ct_law), sl_law⟩)
    (c_law : PySem.W.codeIn K cd_law "law" = true) (k_law : PySem.W.keepIn K (.ref f_law) = true)
    (z_bool : PySem.W.nsIn K mainGlobals "bool" = some none)
    (z_int : PySem.W.nsIn K mainGlobals "int" = some none)
    (z_isinstance : PySem.W.nsIn K mainGlobals "isinstance" = some none)
    (z_len : PySem.W.nsIn K mainGlobals "len" = some none)
    (z_list : PySem.W.nsIn K mainGlobals "list" = some none)
    (z_range : PySem.W.nsIn K mainGlobals "range" = some none)
    (z_repr : PySem.W.nsIn K mainGlobals "repr" = some none)
    (z_set : PySem.W.nsIn K mainGlobals "set" = some none)
    (z_sorted : PySem.W.nsIn K mainGlobals "sorted" = some none)
    (z_str : PySem.W.nsIn K mainGlobals "str" = some none)
    (z_tuple : PySem.W.nsIn K mainGlobals "tuple" = some none)
    : ∃ fd : FuncData, (∀ (s : Shared) (v : Value), BindsTo s fd ⟨[v], []⟩ [("_law_script", v)]) ∧
      ∀ base : Heap, K.In base → base.Ns mainGlobals mg → FnG l.prog w K mg base CX0 11 fa fd ["_law_script"] (sp_law K) := by
  have e := hfa.symm.trans (PySem.W.mg_of X G a_law)
  cases e
  have z_bool := PySem.W.mg_none_of X G z_bool
  have z_int := PySem.W.mg_none_of X G z_int
  have z_isinstance := PySem.W.mg_none_of X G z_isinstance
  have z_len := PySem.W.mg_none_of X G z_len
  have z_list := PySem.W.mg_none_of X G z_list
  have z_range := PySem.W.mg_none_of X G z_range
  have z_repr := PySem.W.mg_none_of X G z_repr
  have z_set := PySem.W.mg_none_of X G z_set
  have z_sorted := PySem.W.mg_none_of X G z_sorted
  have z_str := PySem.W.mg_none_of X G z_str
  have z_tuple := PySem.W.mg_none_of X G z_tuple
  have F_is_int := fun_mk (st := s_is_int) l_is_int c_is_int k_is_int
  have F_is_pair := fun_mk (st := s_is_pair) l_is_pair c_is_pair k_is_pair
  have F_is_cell := fun_mk (st := s_is_cell) l_is_cell c_is_cell k_is_cell
  have F_is_write := fun_mk (st := s_is_write) l_is_write c_is_write k_is_write
  have F_is_name := fun_mk (st := s_is_name) l_is_name c_is_name k_is_name
  have F_is_content := fun_mk (st := s_is_content) l_is_content c_is_content k_is_content
  have F_is_change := fun_mk (st := s_is_change) l_is_change c_is_change k_is_change
  have F_law_whole := fun_mk (st := s_law_whole) l_law_whole c_law_whole k_law_whole
  have F_law_is_cell := fun_mk (st := s_law_is_cell) l_law_is_cell c_law_is_cell k_law_is_cell
  have F_law_is_content := fun_mk (st := s_law_is_content) l_law_is_content c_law_is_content k_law_is_content
  have F_law_is_name := fun_mk (st := s_law_is_name) l_law_is_name c_law_is_name k_law_is_name
  have F_law_is_change := fun_mk (st := s_law_is_change) l_law_is_change c_law_is_change k_law_is_change
  have F_law_right := fun_mk (st := s_law_right) l_law_right c_law_right k_law_right
  have F_law_feed := fun_mk (st := s_law_feed) l_law_feed c_law_feed k_law_feed
  have F_law_take := fun_mk (st := s_law_take) l_law_take c_law_take k_law_take
  have F_law_one := fun_mk (st := s_law_one) l_law_one c_law_one k_law_one
  have F_law_number := fun_mk (st := s_law_number) l_law_number c_law_number k_law_number
  have F_law_cells := fun_mk (st := s_law_cells) l_law_cells c_law_cells k_law_cells
  have F_law_made := fun_mk (st := s_law_made) l_law_made c_law_made k_law_made
  have F_law_word := fun_mk (st := s_law_word) l_law_word c_law_word k_law_word
  have F_law_odd := fun_mk (st := s_law_odd) l_law_odd c_law_odd k_law_odd
  have F_law_bent := fun_mk (st := s_law_bent) l_law_bent c_law_bent k_law_bent
  have F_law_great := fun_mk (st := s_law_great) l_law_great c_law_great k_law_great
  have F_law := fun_mk (st := s_law) l_law c_law k_law
  refine ⟨PySem.W.fnOf "law" "law" (defArgs s_law) (defBody s_law) (defScope s_law) .none kV_law dc_law pm_law an_law cd_law ct_law, fun s v => .of_eq rfl, fun base _ _ => ?_⟩
  have D_is_int : Has l.prog w K mg base 1 "is_int" ["thing"] (sp_is K isInt) := has F_is_int (PySem.W.mg_of X G a_is_int) (ok_is_int F_is_int z_isinstance z_int z_bool) (fun _ _ _ _ _ _ us hl => match us, hl with | [_], _ => rfl) (fun _ _ _ _ _ _ us hl => match us, hl with | [_], _ => rfl)
  have D_is_pair : Has l.prog w K mg base 1 "is_pair" ["thing"] (sp_is K isPair) := has F_is_pair (PySem.W.mg_of X G a_is_pair) (ok_is_pair F_is_pair z_isinstance z_tuple z_len) (fun _ _ _ _ _ _ us hl => match us, hl with | [_], _ => rfl) (fun _ _ _ _ _ _ us hl => match us, hl with | [_], _ => rfl)
  have D_is_cell : Has l.prog w K mg base 2 "is_cell" ["thing"] (sp_is K isCell) := has F_is_cell (PySem.W.mg_of X G a_is_cell) (ok_is_cell F_is_cell D_is_int D_is_pair) (fun _ _ _ _ _ _ us hl => match us, hl with | [_], _ => rfl) (fun _ _ _ _ _ _ us hl => match us, hl with | [_], _ => rfl)
  have D_is_write : Has l.prog w K mg base 3 "is_write" ["thing"] (sp_is K isWrite) := has F_is_write (PySem.W.mg_of X G a_is_write) (ok_is_write F_is_write D_is_int D_is_pair D_is_cell) (fun _ _ _ _ _ _ us hl => match us, hl with | [_], _ => rfl) (fun _ _ _ _ _ _ us hl => match us, hl with | [_], _ => rfl)
  have D_is_name : Has l.prog w K mg base 1 "is_name" ["thing"] (sp_is K isName) := has F_is_name (PySem.W.mg_of X G a_is_name) (ok_is_name F_is_name z_isinstance z_str z_len) (fun _ _ _ _ _ _ us hl => match us, hl with | [_], _ => rfl) (fun _ _ _ _ _ _ us hl => match us, hl with | [_], _ => rfl)
  have D_is_content : Has l.prog w K mg base 4 "is_content" ["thing"] (sp_is K isContent) := has F_is_content (PySem.W.mg_of X G a_is_content) (ok_is_content F_is_content z_isinstance z_tuple z_len z_int D_is_write) (fun _ _ _ _ _ _ us hl => match us, hl with | [_], _ => rfl) (fun _ _ _ _ _ _ us hl => match us, hl with | [_], _ => rfl)
  have D_is_change : Has l.prog w K mg base 5 "is_change" ["thing"] (sp_is K isChange) := has F_is_change (PySem.W.mg_of X G a_is_change) (ok_is_change F_is_change z_len D_is_pair D_is_name D_is_content) (fun _ _ _ _ _ _ us hl => match us, hl with | [_], _ => rfl) (fun _ _ _ _ _ _ us hl => match us, hl with | [_], _ => rfl)
  have D_law_whole : Has l.prog w K mg base 1 "_law_whole" ["_law_it"] (sp_is K M02.isInt) := has F_law_whole (PySem.W.mg_of X G a_law_whole) (ok_law_whole F_law_whole z_isinstance z_int z_bool) (fun _ _ _ _ _ _ us hl => match us, hl with | [_], _ => rfl) (fun _ _ _ _ _ _ us hl => match us, hl with | [_], _ => rfl)
  have D_law_is_cell : Has l.prog w K mg base 2 "_law_is_cell" ["_law_it"] (sp_is K isCell) := has F_law_is_cell (PySem.W.mg_of X G a_law_is_cell) (ok_law_is_cell F_law_is_cell z_isinstance z_tuple z_len D_law_whole) (fun _ _ _ _ _ _ us hl => match us, hl with | [_], _ => rfl) (fun _ _ _ _ _ _ us hl => match us, hl with | [_], _ => rfl)
  have D_law_is_content : Has l.prog w K mg base 3 "_law_is_content" ["_law_it"] (sp_is K isContent) := has F_law_is_content (PySem.W.mg_of X G a_law_is_content) (ok_law_is_content F_law_is_content z_isinstance z_tuple z_len D_law_whole D_law_is_cell) (fun _ _ _ _ _ _ us hl => match us, hl with | [_], _ => rfl) (fun _ _ _ _ _ _ us hl => match us, hl with | [_], _ => rfl)
  have D_law_is_name : Has l.prog w K mg base 1 "_law_is_name" ["_law_it"] (sp_is K isName) := has F_law_is_name (PySem.W.mg_of X G a_law_is_name) (ok_law_is_name F_law_is_name z_isinstance z_str z_len) (fun _ _ _ _ _ _ us hl => match us, hl with | [_], _ => rfl) (fun _ _ _ _ _ _ us hl => match us, hl with | [_], _ => rfl)
  have D_law_is_change : Has l.prog w K mg base 4 "_law_is_change" ["_law_it"] (sp_is K isChange) := has F_law_is_change (PySem.W.mg_of X G a_law_is_change) (ok_law_is_change F_law_is_change z_isinstance z_tuple z_len D_law_is_name D_law_is_content) (fun _ _ _ _ _ _ us hl => match us, hl with | [_], _ => rfl) (fun _ _ _ _ _ _ us hl => match us, hl with | [_], _ => rfl)
  have D_law_right : Has l.prog w K mg base 6 "_law_right" ["_law_it"] (sp_right K) := has F_law_right (PySem.W.mg_of X G a_law_right) (ok_law_right F_law_right z_repr D_law_is_cell D_law_is_content D_law_is_name D_law_is_change D_is_cell D_is_content D_is_name D_is_change) (fun _ _ _ _ _ _ us hl => match us, hl with | [_], _ => rfl) (fun _ _ _ _ _ _ us hl => match us, hl with | [_], _ => rfl)
  have D_law_feed : Has l.prog w K mg base 1 "_law_feed" ["_law_script"] (sp_feed K) := has F_law_feed (PySem.W.mg_of X G a_law_feed) (ok_law_feed F_law_feed z_list) (fun _ _ _ _ _ _ us hl => match us, hl with | [_], _ => rfl) (fun _ _ _ _ _ _ us hl => match us, hl with | [_], _ => rfl)
  have D_law_take : Has l.prog w K mg base 1 "_law_take" ["_law_feed_here", "_law_many"] sp_take := has F_law_take (PySem.W.mg_of X G a_law_take) (ok_law_take F_law_take ) (fun _ _ _ _ _ _ us hl => match us, hl with | [_, _], _ => rfl) (fun _ _ _ _ _ _ us hl => match us, hl with | [_, _], _ => rfl)
  have D_law_one : Has l.prog w K mg base 2 "_law_one" ["_law_feed_here", "_law_some"] sp_one := has F_law_one (PySem.W.mg_of X G a_law_one) (ok_law_one F_law_one z_len D_law_take) (fun _ _ _ _ _ _ us hl => match us, hl with | [_, _], _ => rfl) (fun _ _ _ _ _ _ us hl => match us, hl with | [_, _], _ => rfl)
  have D_law_oneS : Has l.prog w K mg base 2 "_law_one" ["_law_feed_here", "_law_some"] sp_oneS := has F_law_one (PySem.W.mg_of X G a_law_one) (ok_law_oneS F_law_one z_len D_law_take) (fun _ _ _ _ _ _ us hl => match us, hl with | [_, _], _ => rfl) (fun _ _ _ _ _ _ us hl => match us, hl with | [_, _], _ => rfl)
  have D_law_number : Has l.prog w K mg base 3 "_law_number" ["_law_feed_here"] sp_number := has F_law_number (PySem.W.mg_of X G a_law_number) (ok_law_number F_law_number D_law_take D_law_one) (fun _ _ _ _ _ _ us hl => match us, hl with | [_], _ => rfl) (fun _ _ _ _ _ _ us hl => match us, hl with | [_], _ => rfl)
  have D_law_cells : Has l.prog w K mg base 4 "_law_cells" ["_law_feed_here", "_law_many"] (sp_cells K) := has F_law_cells (PySem.W.mg_of X G a_law_cells) (ok_law_cells F_law_cells z_range z_set z_sorted D_law_take D_law_number) (fun _ _ _ _ _ _ us hl => match us, hl with | [_, _], _ => rfl) (fun _ _ _ _ _ _ us hl => match us, hl with | [_, _], _ => rfl)
  have D_law_made : Has l.prog w K mg base 5 "_law_made" ["_law_feed_here"] (sp_made K) := has F_law_made (PySem.W.mg_of X G a_law_made) (ok_law_made F_law_made z_tuple D_law_take D_law_one D_law_number D_law_cells) (fun _ _ _ _ _ _ us hl => match us, hl with | [_], _ => rfl) (fun _ _ _ _ _ _ us hl => match us, hl with | [_], _ => rfl)
  have D_law_word : Has l.prog w K mg base 3 "_law_word" ["_law_feed_here"] sp_word := has F_law_word (PySem.W.mg_of X G a_law_word) (ok_law_word F_law_word z_range D_law_take D_law_one D_law_oneS) (fun _ _ _ _ _ _ us hl => match us, hl with | [_], _ => rfl) (fun _ _ _ _ _ _ us hl => match us, hl with | [_], _ => rfl)
  have D_law_odd : Has l.prog w K mg base 3 "_law_odd" ["_law_feed_here", "_law_it"] (sp_odd K) := has F_law_odd (PySem.W.mg_of X G a_law_odd) (ok_law_odd F_law_odd z_isinstance z_str D_law_whole D_law_one) (fun _ _ _ _ _ _ us hl => match us, hl with | [_, _], _ => rfl) (fun _ _ _ _ _ _ us hl => match us, hl with | [_, _], _ => rfl)
  have L_0 : Has l.prog w K mg base 3 "_law_bent" ["_law_feed_here", "_law_it"] (sp_less K 0) := has F_law_bent (PySem.W.mg_of X G a_law_bent) less_none (fun _ _ _ _ _ _ us hl => match us, hl with | [_, _], _ => rfl) (fun _ _ _ _ _ _ us hl => match us, hl with | [_, _], _ => rfl)
  have L_1 : Has l.prog w K mg base 4 "_law_bent" ["_law_feed_here", "_law_it"] (sp_less K 1) := has F_law_bent (PySem.W.mg_of X G a_law_bent) (less_of (ok_law_bent 0 F_law_bent z_isinstance z_tuple z_len z_list D_law_take D_law_one D_law_odd L_0)) (fun _ _ _ _ _ _ us hl => match us, hl with | [_, _], _ => rfl) (fun _ _ _ _ _ _ us hl => match us, hl with | [_, _], _ => rfl)
  have L_2 : Has l.prog w K mg base 5 "_law_bent" ["_law_feed_here", "_law_it"] (sp_less K 2) := has F_law_bent (PySem.W.mg_of X G a_law_bent) (less_of (ok_law_bent 1 F_law_bent z_isinstance z_tuple z_len z_list D_law_take D_law_one D_law_odd L_1)) (fun _ _ _ _ _ _ us hl => match us, hl with | [_, _], _ => rfl) (fun _ _ _ _ _ _ us hl => match us, hl with | [_, _], _ => rfl)
  have L_3 : Has l.prog w K mg base 6 "_law_bent" ["_law_feed_here", "_law_it"] (sp_less K 3) := has F_law_bent (PySem.W.mg_of X G a_law_bent) (less_of (ok_law_bent 2 F_law_bent z_isinstance z_tuple z_len z_list D_law_take D_law_one D_law_odd L_2)) (fun _ _ _ _ _ _ us hl => match us, hl with | [_, _], _ => rfl) (fun _ _ _ _ _ _ us hl => match us, hl with | [_, _], _ => rfl)
  have L_4 : Has l.prog w K mg base 7 "_law_bent" ["_law_feed_here", "_law_it"] (sp_less K 4) := has F_law_bent (PySem.W.mg_of X G a_law_bent) (less_of (ok_law_bent 3 F_law_bent z_isinstance z_tuple z_len z_list D_law_take D_law_one D_law_odd L_3)) (fun _ _ _ _ _ _ us hl => match us, hl with | [_, _], _ => rfl) (fun _ _ _ _ _ _ us hl => match us, hl with | [_, _], _ => rfl)
  have L_5 : Has l.prog w K mg base 8 "_law_bent" ["_law_feed_here", "_law_it"] (sp_less K 5) := has F_law_bent (PySem.W.mg_of X G a_law_bent) (less_of (ok_law_bent 4 F_law_bent z_isinstance z_tuple z_len z_list D_law_take D_law_one D_law_odd L_4)) (fun _ _ _ _ _ _ us hl => match us, hl with | [_, _], _ => rfl) (fun _ _ _ _ _ _ us hl => match us, hl with | [_, _], _ => rfl)
  have L_6 : Has l.prog w K mg base 9 "_law_bent" ["_law_feed_here", "_law_it"] (sp_less K 6) := has F_law_bent (PySem.W.mg_of X G a_law_bent) (less_of (ok_law_bent 5 F_law_bent z_isinstance z_tuple z_len z_list D_law_take D_law_one D_law_odd L_5)) (fun _ _ _ _ _ _ us hl => match us, hl with | [_, _], _ => rfl) (fun _ _ _ _ _ _ us hl => match us, hl with | [_, _], _ => rfl)
  have D_law_bent4 : Has l.prog w K mg base 8 "_law_bent" ["_law_feed_here", "_law_it"] (sp_bent K 4) := has F_law_bent (PySem.W.mg_of X G a_law_bent) (ok_law_bent 4 F_law_bent z_isinstance z_tuple z_len z_list D_law_take D_law_one D_law_odd L_4) (fun _ _ _ _ _ _ us hl => match us, hl with | [_, _], _ => rfl) (fun _ _ _ _ _ _ us hl => match us, hl with | [_, _], _ => rfl)
  have D_law_bent6 : Has l.prog w K mg base 10 "_law_bent" ["_law_feed_here", "_law_it"] (sp_bent K 6) := has F_law_bent (PySem.W.mg_of X G a_law_bent) (ok_law_bent 6 F_law_bent z_isinstance z_tuple z_len z_list D_law_take D_law_one D_law_odd L_6) (fun _ _ _ _ _ _ us hl => match us, hl with | [_, _], _ => rfl) (fun _ _ _ _ _ _ us hl => match us, hl with | [_, _], _ => rfl)
  have D_law_great : Has l.prog w K mg base 3 "_law_great" ["_law_feed_here"] (sp_great K) := has F_law_great (PySem.W.mg_of X G a_law_great) (ok_law_great F_law_great z_tuple z_range D_law_take D_law_one) (fun _ _ _ _ _ _ us hl => match us, hl with | [_], _ => rfl) (fun _ _ _ _ _ _ us hl => match us, hl with | [_], _ => rfl)
  exact ok_law F_law z_range D_law_feed D_law_take D_law_number D_law_made D_law_word D_law_great D_law_right D_law_bent4 D_law_bent6
end C02
open PySem PySem.W PyProof.Rows
set_option maxRecDepth 100000 in
set_option maxHeartbeats 0 in
theorem PySem.Challenge.cw_heldparts_k02_cells_contents_names_and_c_holds : PySem.Challenge.rw_heldparts_k02_cells_contents_names_and_c.Holds := by
  w_on; o_law; k_head; (case hw => w_witness2)
  k_fill
  refine Lay.walkG (l := PySem.Challenge.rw_heldparts_k02_cells_contents_names_and_c) (n := 63) (k := 11) (x := "_law_script") (spl := C02.sp_law) rfl (by decide) rfl ⟨rfl, by decide, by decide⟩ (fun w h Y => PySem.W.kIn_of Y) ?F (fun K H a ns hl _ hS => ⟨a, ns, rfl, hS, hl, fun _ => rfl⟩)
  case F =>
    intro w mg fa h KX G hmg
    refine' C02.all_mk KX G hmg ?a_is_int ?l_is_int ?c_is_int ?k_is_int ?a_is_pair ?l_is_pair ?c_is_pair ?k_is_pair ?a_is_cell ?l_is_cell ?c_is_cell ?k_is_cell ?a_is_write ?l_is_write ?c_is_write ?k_is_write ?a_is_name ?l_is_name ?c_is_name ?k_is_name ?a_is_content ?l_is_content ?c_is_content ?k_is_content ?a_is_change ?l_is_change ?c_is_change ?k_is_change ?a_law_whole ?l_law_whole ?c_law_whole ?k_law_whole ?a_law_is_cell ?l_law_is_cell ?c_law_is_cell ?k_law_is_cell ?a_law_is_content ?l_law_is_content ?c_law_is_content ?k_law_is_content ?a_law_is_name ?l_law_is_name ?c_law_is_name ?k_law_is_name ?a_law_is_change ?l_law_is_change ?c_law_is_change ?k_law_is_change ?a_law_right ?l_law_right ?c_law_right ?k_law_right ?a_law_feed ?l_law_feed ?c_law_feed ?k_law_feed ?a_law_take ?l_law_take ?c_law_take ?k_law_take ?a_law_one ?l_law_one ?c_law_one ?k_law_one ?a_law_number ?l_law_number ?c_law_number ?k_law_number ?a_law_cells ?l_law_cells ?c_law_cells ?k_law_cells ?a_law_made ?l_law_made ?c_law_made ?k_law_made ?a_law_word ?l_law_word ?c_law_word ?k_law_word ?a_law_odd ?l_law_odd ?c_law_odd ?k_law_odd ?a_law_bent ?l_law_bent ?c_law_bent ?k_law_bent ?a_law_great ?l_law_great ?c_law_great ?k_law_great ?a_law ?l_law ?c_law ?k_law ?z_bool ?z_int ?z_isinstance ?z_len ?z_list ?z_range ?z_repr ?z_set ?z_sorted ?z_str ?z_tuple
    (case a_is_int => k_is); (case l_is_int => k_is); (case c_is_int => k_is); (case k_is_int => k_is); (case a_is_pair => k_is); (case l_is_pair => k_is); (case c_is_pair => k_is); (case k_is_pair => k_is); (case a_is_cell => k_is); (case l_is_cell => k_is); (case c_is_cell => k_is); (case k_is_cell => k_is); (case a_is_write => k_is); (case l_is_write => k_is); (case c_is_write => k_is); (case k_is_write => k_is); (case a_is_name => k_is); (case l_is_name => k_is); (case c_is_name => k_is); (case k_is_name => k_is); (case a_is_content => k_is); (case l_is_content => k_is); (case c_is_content => k_is); (case k_is_content => k_is); (case a_is_change => k_is); (case l_is_change => k_is); (case c_is_change => k_is); (case k_is_change => k_is); (case a_law_whole => k_is); (case l_law_whole => k_is); (case c_law_whole => k_is); (case k_law_whole => k_is); (case a_law_is_cell => k_is); (case l_law_is_cell => k_is); (case c_law_is_cell => k_is); (case k_law_is_cell => k_is); (case a_law_is_content => k_is); (case l_law_is_content => k_is); (case c_law_is_content => k_is); (case k_law_is_content => k_is); (case a_law_is_name => k_is); (case l_law_is_name => k_is); (case c_law_is_name => k_is); (case k_law_is_name => k_is); (case a_law_is_change => k_is); (case l_law_is_change => k_is); (case c_law_is_change => k_is); (case k_law_is_change => k_is); (case a_law_right => k_is); (case l_law_right => k_is); (case c_law_right => k_is); (case k_law_right => k_is); (case a_law_feed => k_is); (case l_law_feed => k_is); (case c_law_feed => k_is); (case k_law_feed => k_is); (case a_law_take => k_is); (case l_law_take => k_is); (case c_law_take => k_is); (case k_law_take => k_is); (case a_law_one => k_is); (case l_law_one => k_is); (case c_law_one => k_is); (case k_law_one => k_is); (case a_law_number => k_is); (case l_law_number => k_is); (case c_law_number => k_is); (case k_law_number => k_is); (case a_law_cells => k_is); (case l_law_cells => k_is); (case c_law_cells => k_is); (case k_law_cells => k_is); (case a_law_made => k_is); (case l_law_made => k_is); (case c_law_made => k_is); (case k_law_made => k_is); (case a_law_word => k_is); (case l_law_word => k_is); (case c_law_word => k_is); (case k_law_word => k_is); (case a_law_odd => k_is); (case l_law_odd => k_is); (case c_law_odd => k_is); (case k_law_odd => k_is); (case a_law_bent => k_is); (case l_law_bent => k_is); (case c_law_bent => k_is); (case k_law_bent => k_is); (case a_law_great => k_is); (case l_law_great => k_is); (case c_law_great => k_is); (case k_law_great => k_is); (case a_law => k_is); (case l_law => k_is); (case c_law => k_is); (case k_law => k_is); (case z_bool => k_is); (case z_int => k_is); (case z_isinstance => k_is); (case z_len => k_is); (case z_list => k_is); (case z_range => k_is); (case z_repr => k_is); (case z_set => k_is); (case z_sorted => k_is); (case z_str => k_is); (case z_tuple => k_is)
